package vm

import (
	"slices"
	"strings"

	"detent/api"
	"detent/dict"
	"detent/mem"
)

// primNames are the primitives' names, in the order of their numbers, ten a line: a text, so that each call makes a row of its own of it.
const primNames = `
(exit) (lit) (branch) (0branch) (do) (?do) (loop) (+loop) (halt) (caught)
(does) (str) EXECUTE CATCH THROW I J UNLOOP >R R>
R@ 2>R 2R> DUP DROP SWAP OVER ROT -ROT NIP
TUCK ?DUP 2DUP 2DROP 2SWAP 2OVER PICK ROLL DEPTH +
- * / MOD AND OR XOR LSHIFT RSHIFT MIN
MAX = <> < > <= >= U< U> NEGATE
ABS INVERT 1+ 1- 2* 2/ 0= 0< 0<> 0>
CELLS CELL+ ALIGNED /MOD */ */MOD UM* UM/MOD M* SM/REM
FM/MOD S>D WITHIN @ ! +! C@ C! 2@ 2!
FILL MOVE COUNT HERE ALLOT , C, ALIGN BASE STATE
TRUE FALSE BL DECIMAL HEX EMIT CR SPACE SPACES TYPE
. U. <# # #S HOLD SIGN #> >BODY ABORT
POST AFTER EVERY CANCEL ARG SELF NOW SET-STATE AT-STATE GET-STATE
`

// specialNames are the specials' names, likewise.
const specialNames = `
: ; CREATE DOES> VARIABLE CONSTANT IMMEDIATE ' ['] CHAR
[CHAR] LITERAL POSTPONE RECURSE IF ELSE THEN BEGIN WHILE REPEAT
UNTIL AGAIN DO ?DO LOOP +LOOP LEAVE S" ." (
\ [ ] FORGET MACHINE ON: EXIT
`

// The numbers of the primitives that are never found, and how many these are.
const (
	exit = iota
	lit
	branch
	branchIfNo
	do
	doIfAny
	loop
	loopBy
	halt
	caught
	does
	str
	unfound
)

const (
	prims      = 130
	specials   = 37
	start      = api.AtPrims + api.Cell*(prims+specials)
	firstBase  = 10
	leastWords = 200
	mostFrames = 64
	mostNext   = 1 << 62
)

// place is where the nth code field stands, from 0 on.
func place(n int) int { return api.AtPrims + api.Cell*n }

// field is the nth code field, from 0 on.
func field(n int) int {
	if n < prims {
		return n
	}
	return api.Special + n - prims
}

// flags are the flags of words, by their names; a word that isn't there has none.
func flags() map[string]int {
	all := map[string]int{}
	give(all, api.Hidden|api.Only, Names()[:unfound])
	give(all, api.Only, strings.Fields("I J UNLOOP >R R> R@ 2>R 2R>"))
	give(all, api.Immediate|api.Only, strings.Fields(`
		; DOES> ['] [CHAR] LITERAL POSTPONE RECURSE IF ELSE THEN BEGIN WHILE
		REPEAT UNTIL AGAIN DO ?DO LOOP +LOOP LEAVE S" EXIT`))
	give(all, api.Immediate, strings.Fields(`." ( \ [`))
	return all
}

// give lays a sum of flags at each of the names.
func give(all map[string]int, sum int, names []string) {
	for _, name := range names {
		all[name] = sum
	}
}

// firstWords are a new machine's words, where there is room for so many.
func firstWords(room int) []api.Word {
	var l []api.Word
	flagged := flags()
	for n, name := range slices.Concat(Names(), Specials()) {
		// No code can come: each name may be, and a configuration has room for more words than these.
		l, _ = dict.Add(l, name, place(n), flagged[name], room)
	}
	return l
}

// firstMemory is a new machine's memory, of so many bytes.
func firstMemory(n int) api.Mem {
	// No code can come: a configuration has more bytes than stand ahead of Start.
	m, _ := mem.New(n)
	b, _ := mem.Text(head(), 0, start)
	m, _ = mem.Write(m, 0, b)
	return mem.Free(m)
}

// head is what stands ahead of Start, as a memory of its own: as each store copies a memory, these are stored into a small one.
func head() api.Mem {
	m, _ := mem.New(start)
	m, _ = mem.Store(m, api.AtBase, firstBase)
	m, _ = mem.Store(m, api.AtHalt, place(halt))
	m, _ = mem.Store(m, api.AtCaught, place(caught))
	for n := range prims + specials {
		m, _ = mem.Store(m, place(n), field(n))
	}
	return mem.Free(m)
}
