package prim

import (
	"bytes"
	"encoding/binary"
	"math"
	"slices"
	"strconv"
	"strings"
	"sync"
	"testing"

	"detent/api"
	"detent/vm"
)

const (
	least = math.MinInt
	most  = math.MaxInt
)

// namesByHand are the primitives of the chapter, each behind its number.
const namesByHand = `
23 DUP 24 DROP 25 SWAP 26 OVER 27 ROT 28 -ROT 29 NIP 30 TUCK 31 ?DUP 32 2DUP 33 2DROP 34 2SWAP 35 2OVER 36 PICK 37 ROLL 38 DEPTH
39 + 40 - 41 * 42 / 43 MOD 44 AND 45 OR 46 XOR 47 LSHIFT 48 RSHIFT 49 MIN 50 MAX
51 = 52 <> 53 < 54 > 55 <= 56 >= 57 U< 58 U>
59 NEGATE 60 ABS 61 INVERT 62 1+ 63 1- 64 2* 65 2/ 66 0= 67 0< 68 0<> 69 0> 70 CELLS 71 CELL+ 72 ALIGNED
73 /MOD 74 */ 75 */MOD 76 UM* 77 UM/MOD 78 M* 79 SM/REM 80 FM/MOD 81 S>D 82 WITHIN
83 @ 84 ! 85 +! 86 C@ 87 C! 88 2@ 89 2! 90 FILL 91 MOVE 92 COUNT
93 HERE 94 ALLOT 95 , 96 C, 97 ALIGN 98 BASE 99 STATE 100 TRUE 101 FALSE 102 BL 103 DECIMAL 104 HEX
105 EMIT 106 CR 107 SPACE 108 SPACES 109 TYPE 110 . 111 U. 112 <# 113 # 114 #S 115 HOLD 116 SIGN 117 #>
118 >BODY 119 ABORT 120 POST 121 AFTER 122 EVERY 123 CANCEL 124 ARG 125 SELF 126 NOW 127 SET-STATE 128 AT-STATE 129 GET-STATE
`

// numbersByHand are the numbers of the primitives of the chapter, by their names.
var numbersByHand = sync.OnceValue(func() map[string]int {
	all := map[string]int{}
	for pair := range slices.Chunk(strings.Fields(namesByHand), 2) {
		n, err := strconv.Atoi(pair[0])
		if err != nil {
			panic(err)
		}
		all[pair[1]] = n
	}
	return all
})

// namesInOrder are the names of the primitives of the chapter, in the order of their numbers.
func namesInOrder() []string {
	var all []string
	for pair := range slices.Chunk(strings.Fields(namesByHand), 2) {
		all = append(all, pair[1])
	}
	return all
}

// do is Do of a word of that name.
func do(t *testing.T, v api.Vm, name string) (api.Vm, api.Throw) {
	t.Helper()
	n, known := numbersByHand()[name]
	if !known {
		t.Fatalf("no word %s", name)
	}
	return Do(v, n)
}

// done is a machine behind words that have no code.
func done(t *testing.T, v api.Vm, words string) api.Vm {
	t.Helper()
	for _, name := range strings.Fields(words) {
		o, code := do(t, v, name)
		if code != api.OK {
			t.Fatalf("%s of %v: %d", name, v.D, code)
		}
		v = o
	}
	return v
}

// with is a machine with just these cells on its stack.
func with(v api.Vm, s ...int) api.Vm {
	out := deep(v)
	out.D = s
	return out
}

// made is a new machine that there has to be.
func made(t *testing.T, c api.Conf) api.Vm {
	t.Helper()
	v, code := vm.New(c)
	if code != api.OK {
		t.Fatalf("New of %v: %d", c, code)
	}
	return v
}

// plainOnce is made once for all tests, as a new machine takes its time.
var plainOnce = sync.OnceValues(func() (api.Vm, api.Throw) {
	return vm.New(api.Conf{Mem: 2048, Data: 20, Ret: 12, Words: 300, Out: 200})
})

// plain is a new machine of 2048 bytes.
func plain(t *testing.T) api.Vm {
	t.Helper()
	v, code := plainOnce()
	if code != api.OK {
		t.Fatal("New:", code)
	}
	return deep(v)
}

// busy is a right machine of 2048 bytes of which each part has something: the bytes from 1368 on up to 2048 are 1, 2, .. 250, 1, 2 and so on.
func busy(t *testing.T) api.Vm {
	t.Helper()
	v := plain(t)
	for at := 1368; at < 2048; at++ {
		v.Mem.B[at] = byte(1 + (at-1368)%250)
	}
	v.Mem.Old = []api.Patch{{At: 1368, Old: []byte{7}}, {At: 1400, Old: []byte{8, 9}}, {At: 5000, Old: nil}}
	v.Here = 1440
	v.R = []int{21, 22, -23}
	v.F = []api.Frame{{D: 1, R: 2, Ip: 1400}, {D: 0, R: 256, Ip: -5}}
	v.Dict = append(v.Dict, api.Word{Name: "a", Xt: 1368}, api.Word{Name: "b", Xt: 1376, Flags: 7})
	v.Last = 1376
	v.Out = []byte("25 -7 ")
	v.Pic = api.Pic{B: []byte("321"), On: true}
	v.Req = []api.Req{{Kind: 1, Arg: 5, Hand: 1, Rank: 2, Delay: 3, Id: 4}, {Kind: 4, Arg: 1, Hand: 1, Rank: 1, Delay: 1, Id: 7}}
	v.Free, v.Next, v.Arg, v.Self, v.Now = 3, 9, -77, 1, 1000
	v.Hand = []api.Hand{{Xt: 1368, Fuel: 50, Strikes: 1}, {Xt: 1376, Fuel: 60, Strikes: 2, Out: true}, {Xt: 1384, Fuel: 70, Strikes: 3}}
	return v
}

// roomy is a machine each of whose rows has room behind its end, with something in it.
func roomy(v api.Vm) api.Vm {
	v = deep(v)
	v.Mem.B = slices.Grow(v.Mem.B, 8)
	v.Mem.Old = append(v.Mem.Old, api.Patch{At: 1, Old: []byte{1}})[:len(v.Mem.Old)]
	v.D = append(v.D, 901, 902, 903, 904, 905, 906)[:len(v.D)]
	v.R = append(v.R, 911)[:len(v.R)]
	v.F = append(v.F, api.Frame{D: 9})[:len(v.F)]
	v.Dict = append(v.Dict, api.Word{Name: "z"})[:len(v.Dict)]
	v.Out = append(v.Out, strings.Repeat("z", 300)...)[:len(v.Out)]
	v.Pic.B = append(v.Pic.B, strings.Repeat("z", 150)...)[:len(v.Pic.B)]
	v.Req = append(v.Req, api.Req{Kind: 9}, api.Req{Kind: 9})[:len(v.Req)]
	v.Hand = append(v.Hand, api.Hand{Xt: 9})[:len(v.Hand)]
	return v
}

// deep is what a machine is, in memory of its own, with the room behind its rows.
func deep(v api.Vm) api.Vm {
	v.Mem.B = row(v.Mem.B)
	v.Mem.Old = row(v.Mem.Old)
	patches := v.Mem.Old[:cap(v.Mem.Old)]
	for i := range patches {
		patches[i].Old = row(patches[i].Old)
	}
	v.D, v.R, v.F, v.Dict = row(v.D), row(v.R), row(v.F), row(v.Dict)
	v.Out, v.Pic.B = row(v.Out), row(v.Pic.B)
	v.Req, v.Hand = row(v.Req), row(v.Hand)
	return v
}

// row is a row in memory of its own, with the room behind its end.
func row[T any](s []T) []T {
	out := make([]T, cap(s))
	copy(out, s[:cap(s)])
	return out[:len(s)]
}

// whole is what a machine is, each row up to the end of its room.
func whole(v api.Vm) api.Vm {
	v = deep(v)
	v.Mem.B, v.Mem.Old = v.Mem.B[:cap(v.Mem.B)], v.Mem.Old[:cap(v.Mem.Old)]
	for i := range v.Mem.Old {
		v.Mem.Old[i].Old = v.Mem.Old[i].Old[:cap(v.Mem.Old[i].Old)]
	}
	v.D, v.R, v.F, v.Dict = v.D[:cap(v.D)], v.R[:cap(v.R)], v.F[:cap(v.F)], v.Dict[:cap(v.Dict)]
	v.Out, v.Pic.B = v.Out[:cap(v.Out)], v.Pic.B[:cap(v.Pic.B)]
	v.Req, v.Hand = v.Req[:cap(v.Req)], v.Hand[:cap(v.Hand)]
	return v
}

// differs is the first part in which two machines differ, or nothing.
func differs(a, b api.Vm) string {
	samePatch := func(p, q api.Patch) bool { return p.At == q.At && bytes.Equal(p.Old, q.Old) }
	for _, part := range []struct {
		name string
		same bool
	}{
		{"Conf", a.Conf == b.Conf}, {"Mem.B", bytes.Equal(a.Mem.B, b.Mem.B)}, {"Mem.Old", slices.EqualFunc(a.Mem.Old, b.Mem.Old, samePatch)},
		{"Here", a.Here == b.Here}, {"D", slices.Equal(a.D, b.D)}, {"R", slices.Equal(a.R, b.R)}, {"F", slices.Equal(a.F, b.F)},
		{"Dict", slices.Equal(a.Dict, b.Dict)}, {"Last", a.Last == b.Last}, {"Out", bytes.Equal(a.Out, b.Out)},
		{"Pic.B", bytes.Equal(a.Pic.B, b.Pic.B)}, {"Pic.On", a.Pic.On == b.Pic.On}, {"Req", slices.Equal(a.Req, b.Req)},
		{"Free", a.Free == b.Free}, {"Next", a.Next == b.Next}, {"Arg", a.Arg == b.Arg}, {"Self", a.Self == b.Self}, {"Now", a.Now == b.Now},
		{"Hand", slices.Equal(a.Hand, b.Hand)},
	} {
		if !part.same {
			return part.name
		}
	}
	return ""
}

// expect holds a machine and a code against what they should be.
func expect(t *testing.T, what string, got api.Vm, code api.Throw, want api.Vm, wantCode api.Throw) {
	t.Helper()
	if code != wantCode {
		t.Errorf("%s: code %d, want %d", what, code, wantCode)
	}
	if part := differs(got, want); part != "" {
		t.Errorf("%s: %s isn't as it should be: D %v, Out %q, Here %d, Pic %q, Req %v, want D %v, Out %q, Here %d, Pic %q, Req %v",
			what, part, got.D, got.Out, got.Here, got.Pic.B, got.Req, want.D, want.Out, want.Here, want.Pic.B, want.Req)
	}
}

// cells lay cells into memory, as if they had always stood there.
func cells(pairs ...int) func(*api.Vm) {
	return func(v *api.Vm) {
		for pair := range slices.Chunk(pairs, 2) {
			binary.LittleEndian.PutUint64(v.Mem.B[pair[0]:], uint64(pair[1]))
		}
	}
}

// written tells a write of bytes at a place.
func written(at int, b ...byte) func(*api.Vm) {
	return func(v *api.Vm) {
		old := append([]byte(nil), v.Mem.B[at:at+len(b)]...)
		v.Mem.Old = append(v.Mem.Old, api.Patch{At: at, Old: old})
		copy(v.Mem.B[at:], b)
	}
}

// stored tells a write of a cell at a place.
func stored(at, n int) func(*api.Vm) {
	return written(at, binary.LittleEndian.AppendUint64(nil, uint64(n))...)
}

// all is one behind the other.
func all(turns ...func(*api.Vm)) func(*api.Vm) {
	return func(v *api.Vm) {
		for _, turn := range turns {
			turn(v)
		}
	}
}

// P11.1

func TestDoesOfEachNumber(t *testing.T) {
	for n := -2; n <= 400; n++ {
		if got := Does(n); got != (n >= 23 && n <= 129) {
			t.Errorf("Does of %d: %v", n, got)
		}
	}
	for _, n := range []int{least, least + 23, least + 24, most, most - 1, 1<<32 + 23, -1<<32 + 23, 1<<8 + 23, 1<<16 + 129, -23, -129} {
		if Does(n) {
			t.Errorf("Does of %d: yes", n)
		}
	}
}

func TestDoesByTheChaptersNames(t *testing.T) {
	numbers := numbersByHand()
	if len(numbers) != 107 {
		t.Fatal(len(numbers), "names")
	}
	for name, n := range numbers {
		if vm.Names()[n] != name || !Does(n) {
			t.Errorf("%d is %s, want %s; Does: %v", n, vm.Names()[n], name, Does(n))
		}
	}
	for n, name := range vm.Names() {
		if _, known := numbers[name]; known != Does(n) {
			t.Errorf("Does of %d, %s: %v", n, name, Does(n))
		}
	}
}

// P11.2, numbers that are none of these

func TestDoOfNoneOfTheseNumbers(t *testing.T) {
	numbers := []int{least, least + 23, least + 24, most, most - 1, 1<<32 + 23, 1<<8 + 23, 1<<16 + 39, -1 << 32, -23, -24}
	for n := -20; n <= 400; n++ {
		if n < 23 || n > 129 {
			numbers = append(numbers, n)
		}
	}
	full := with(busy(t), 1, 2, 3, 4)
	full.Conf.Data = 4
	for _, v := range []api.Vm{plain(t), with(plain(t), 1, 2, 3, 4), busy(t), full, roomy(full)} {
		kept := whole(v)
		for _, n := range numbers {
			got, code := Do(v, n)
			expect(t, "Do of "+strconv.Itoa(n), got, code, v, -24)
		}
		if part := differs(whole(v), kept); part != "" {
			t.Error("Do changes what it was given:", part)
		}
	}
}

// The chapter's example

func TestTheChaptersExample(t *testing.T) {
	v := with(plain(t), 7, -2)
	got, code := Do(v, 73)
	expect(t, "/MOD", got, code, with(v, -1, -4), api.OK)
}

// The first of the document's examples that a primitive alone tells.
func TestTheDocumentsExamples(t *testing.T) {
	v := done(t, with(plain(t), 7, 8, 9, 2), "PICK")
	if !slices.Equal(v.D, []int{7, 8, 9, 7}) {
		t.Error("PICK:", v.D)
	}
	v = done(t, with(plain(t), 5), "DUP * .")
	if string(v.Out) != "25 " || len(v.D) != 0 {
		t.Errorf("DUP * .: %q, %v", v.Out, v.D)
	}
}
