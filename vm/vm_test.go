package vm

import (
	"bytes"
	"fmt"
	"math"
	"reflect"
	"slices"
	"strconv"
	"strings"
	"testing"

	"detent/api"
	"detent/mem"
	"detent/pic"
)

const (
	least = math.MinInt
	most  = math.MaxInt
)

// primsByHand are the primitives, each behind its number, as the chapter tells them.
const primsByHand = `
0 (exit) 1 (lit) 2 (branch) 3 (0branch) 4 (do) 5 (?do) 6 (loop) 7 (+loop) 8 (halt) 9 (caught)
10 (does) 11 (str) 12 EXECUTE 13 CATCH 14 THROW 15 I 16 J 17 UNLOOP 18 >R 19 R>
20 R@ 21 2>R 22 2R> 23 DUP 24 DROP 25 SWAP 26 OVER 27 ROT 28 -ROT 29 NIP
30 TUCK 31 ?DUP 32 2DUP 33 2DROP 34 2SWAP 35 2OVER 36 PICK 37 ROLL 38 DEPTH 39 +
40 - 41 * 42 / 43 MOD 44 AND 45 OR 46 XOR 47 LSHIFT 48 RSHIFT 49 MIN
50 MAX 51 = 52 <> 53 < 54 > 55 <= 56 >= 57 U< 58 U> 59 NEGATE
60 ABS 61 INVERT 62 1+ 63 1- 64 2* 65 2/ 66 0= 67 0< 68 0<> 69 0>
70 CELLS 71 CELL+ 72 ALIGNED 73 /MOD 74 */ 75 */MOD 76 UM* 77 UM/MOD 78 M* 79 SM/REM
80 FM/MOD 81 S>D 82 WITHIN 83 @ 84 ! 85 +! 86 C@ 87 C! 88 2@ 89 2!
90 FILL 91 MOVE 92 COUNT 93 HERE 94 ALLOT 95 , 96 C, 97 ALIGN 98 BASE 99 STATE
100 TRUE 101 FALSE 102 BL 103 DECIMAL 104 HEX 105 EMIT 106 CR 107 SPACE 108 SPACES 109 TYPE
110 . 111 U. 112 <# 113 # 114 #S 115 HOLD 116 SIGN 117 #> 118 >BODY 119 ABORT
120 POST 121 AFTER 122 EVERY 123 CANCEL 124 ARG 125 SELF 126 NOW 127 SET-STATE 128 AT-STATE 129 GET-STATE
`

// specialsByHand are the specials, likewise.
const specialsByHand = `
300 : 301 ; 302 CREATE 303 DOES> 304 VARIABLE 305 CONSTANT 306 IMMEDIATE 307 ' 308 ['] 309 CHAR
310 [CHAR] 311 LITERAL 312 POSTPONE 313 RECURSE 314 IF 315 ELSE 316 THEN 317 BEGIN 318 WHILE 319 REPEAT
320 UNTIL 321 AGAIN 322 DO 323 ?DO 324 LOOP 325 +LOOP 326 LEAVE 327 S" 328 ." 329 (
330 \ 331 [ 332 ] 333 FORGET 334 MACHINE 335 ON: 336 EXIT
`

// numbered is a word of a table: its number, and its name.
type numbered struct {
	n    int
	name string
}

// table is the words of a text, each behind its number.
func table(text string) []numbered {
	var all []numbered
	for pair := range slices.Chunk(strings.Fields(text), 2) {
		n, err := strconv.Atoi(pair[0])
		if err != nil {
			panic(err)
		}
		all = append(all, numbered{n, pair[1]})
	}
	return all
}

// allByHand are all words of a new machine, in their order.
func allByHand() []numbered { return append(table(primsByHand), table(specialsByHand)...) }

// conf is a configuration.
func conf(mem, data, ret, words, out int) api.Conf {
	return api.Conf{Mem: mem, Data: data, Ret: ret, Words: words, Out: out}
}

// The least configuration, the greatest one, and some between.
func leastConf() api.Conf    { return conf(2048, 1, 1, 200, 0) }
func greatestConf() api.Conf { return conf(65536, 256, 256, 1024, 65536) }
func middleConf() api.Conf   { return conf(4096, 64, 32, 300, 4000) }
func goodConfs() []api.Conf {
	return []api.Conf{
		leastConf(), greatestConf(), middleConf(), conf(8192, 64, 64, 300, 4000),
		conf(2056, 2, 1, 201, 1), conf(65528, 255, 256, 1023, 65535), conf(2048, 256, 1, 1024, 0), conf(65536, 1, 256, 200, 65536),
	}
}

// made is a new machine that there has to be.
func made(t *testing.T, c api.Conf) api.Vm {
	t.Helper()
	v, code := New(c)
	if code != api.OK {
		t.Fatalf("New of %v: %d", c, code)
	}
	return v
}

// busy is a right machine of which each part has something, and each list at least three elements.
func busy(t *testing.T) api.Vm {
	t.Helper()
	v := made(t, conf(2048, 10, 12, 300, 50))
	for i, at := range []int{1368, 1376, 1401} {
		var code api.Throw
		if v.Mem, code = mem.Write(v.Mem, at, []byte{byte(1 + i), 2, 3}); code != api.OK {
			t.Fatal(code)
		}
	}
	v.Here = 1408
	v.D, v.R = []int{11, -12, 13, 14}, []int{21, 22, -23}
	v.F = []api.Frame{{D: 1, R: 2, Ip: 1400}, {D: 0, R: 256, Ip: -5}, {D: 3, R: 4, Ip: 24}}
	v.Dict = append(v.Dict, api.Word{Name: "a", Xt: 1368}, api.Word{Name: "b", Xt: 1376, Flags: 7})
	v.Last = 1376
	v.Out = []byte("25 -7 ")
	v.Pic = pic.Begin()
	v.Pic.B = []byte("321-")
	v.Req = []api.Req{
		{Kind: 1, Arg: 5, Hand: 1, Rank: 2, Delay: 3, Id: 4}, {Kind: 2, Arg: -5, Hand: 2, Rank: 3, Delay: 9, Id: 8}, {Kind: 4, Arg: 1, Hand: 1, Rank: 1, Delay: 1, Id: 7},
	}
	v.Free, v.Next, v.Arg, v.Self, v.Now = 3, 9, -77, 1, 1000
	v.Hand = []api.Hand{{Xt: 1368, Fuel: 50, Strikes: 1}, {Xt: 1376, Fuel: 60, Strikes: 2, Out: true}, {Xt: 1384, Fuel: 70, Strikes: 3}}
	return v
}

// deep is what a value is, in memory of its own, with the room behind its rows.
func deep[T any](x T) T {
	var out T
	copyInto(reflect.ValueOf(&out).Elem(), reflect.ValueOf(x))
	return out
}

func copyInto(to, from reflect.Value) {
	switch from.Kind() {
	case reflect.Struct:
		for i := range from.NumField() {
			copyInto(to.Field(i), from.Field(i))
		}
	case reflect.Slice:
		if from.IsNil() {
			return
		}
		row := reflect.MakeSlice(from.Type(), from.Cap(), from.Cap())
		whole := from.Slice(0, from.Cap())
		reflect.Copy(row, whole)
		for i := 0; hasRows(from.Type().Elem()) && i < whole.Len(); i++ {
			copyInto(row.Index(i), whole.Index(i))
		}
		to.Set(row.Slice(0, from.Len()))
	default:
		to.Set(from)
	}
}

// hasRows: may a value of a kind share memory with another one?
func hasRows(kind reflect.Type) bool { return kind == reflect.TypeFor[api.Patch]() }

// whole is what a value is, each row up to the end of its room.
func whole[T any](x T) T {
	out := deep(x)
	stretch(reflect.ValueOf(&out).Elem())
	return out
}

func stretch(v reflect.Value) {
	switch v.Kind() {
	case reflect.Struct:
		for i := range v.NumField() {
			stretch(v.Field(i))
		}
	case reflect.Slice:
		if !v.IsNil() {
			v.Set(v.Slice(0, v.Cap()))
		}
		for i := 0; hasRows(v.Type().Elem()) && i < v.Len(); i++ {
			stretch(v.Index(i))
		}
	}
}

// alike holds two values against each other without a call of the package: rows without elements are the same, and what is behind a row's end is left out.
func alike(a, b any) bool { return alikeValues(reflect.ValueOf(a), reflect.ValueOf(b)) }

func alikeValues(a, b reflect.Value) bool {
	switch a.Kind() {
	case reflect.Struct:
		for i := range a.NumField() {
			if !alikeValues(a.Field(i), b.Field(i)) {
				return false
			}
		}
		return true
	case reflect.Slice:
		if a.Len() != b.Len() {
			return false
		}
		if a.Type().Elem().Kind() == reflect.Uint8 {
			return bytes.Equal(a.Bytes(), b.Bytes())
		}
		for i := range a.Len() {
			if !alikeValues(a.Index(i), b.Index(i)) {
				return false
			}
		}
		return true
	}
	return a.Interface() == b.Interface()
}

// expect holds a machine and a code against what they should be.
func expect(t *testing.T, what string, got api.Vm, code api.Throw, want api.Vm, wantCode api.Throw) {
	t.Helper()
	if code != wantCode {
		t.Errorf("%s: code %d, want %d", what, code, wantCode)
	}
	if !alike(got, want) {
		t.Errorf("%s: D %v, R %v, Out %q, want D %v, R %v, Out %q, or another part isn't as it should be", what, got.D, got.R, got.Out, want.D, want.R, want.Out)
	}
}

// P10.1, names

func expectNames(t *testing.T, what string, got []string, want []numbered, many, first int) {
	t.Helper()
	if len(got) != many || len(want) != many {
		t.Fatalf("%s: %d names, in the chapter %d, want %d", what, len(got), len(want), many)
	}
	for i, w := range want {
		if w.n != first+i || got[i] != w.name {
			t.Errorf("%s at %d: %q, want %q, the number %d", what, i, got[i], w.name, w.n)
		}
	}
}

func TestNamesAreTheChapters(t *testing.T) {
	expectNames(t, "Names", Names(), table(primsByHand), 130, 0)
	expectNames(t, "Specials", Specials(), table(specialsByHand), 37, 300)
}

func TestNamesByExample(t *testing.T) {
	for n, name := range map[int]string{0: "(exit)", 11: "(str)", 12: "EXECUTE", 15: "I", 23: "DUP", 95: ",", 110: ".", 113: "#", 117: "#>", 129: "GET-STATE"} {
		if got := Names()[n]; got != name {
			t.Errorf("%d: %q, want %q", n, got, name)
		}
	}
	for n, name := range map[int]string{300: ":", 301: ";", 307: "'", 308: "[']", 327: `S"`, 328: `."`, 329: "(", 330: `\`, 331: "[", 332: "]", 336: "EXIT"} {
		if got := Specials()[n-300]; got != name {
			t.Errorf("%d: %q, want %q", n, got, name)
		}
	}
}

func TestNoNameStandsTwice(t *testing.T) {
	seen := map[string]bool{}
	for _, name := range append(Names(), Specials()...) {
		if seen[name] {
			t.Error(name, "stands twice")
		}
		seen[name] = true
	}
	if len(seen) != 167 {
		t.Error(len(seen))
	}
}

func TestNamesAreARowOfTheirOwnEachTime(t *testing.T) {
	for what, call := range map[string]func() []string{"Names": Names, "Specials": Specials} {
		first := call()
		kept := slices.Clone(first)
		for i := range first {
			first[i] = "other"
		}
		_ = append(first[:0], "more")
		if !slices.Equal(call(), kept) {
			t.Error(what, "hands out a row that was written into")
		}
	}
}

func TestStart(t *testing.T) {
	if Start() != 1368 || Start() != 32+8*(len(Names())+len(Specials())) {
		t.Error(Start())
	}
}

// P10.1, Fits

// confsAround are configurations of which just one number is another one than in one that may be: by that number, and whether it may be.
func confsAround(c api.Conf) map[string]map[api.Conf]bool {
	all := map[string]map[api.Conf]bool{}
	add := func(field string, may bool, numbers ...int) {
		if all[field] == nil {
			all[field] = map[api.Conf]bool{}
		}
		for _, n := range numbers {
			d := c
			reflect.ValueOf(&d).Elem().FieldByName(field).SetInt(int64(n))
			all[field][d] = may
		}
	}
	add("Mem", true, 2048, 2056, 2064, 4096, 8192, 65520, 65528, 65536)
	add("Mem", false, 2047, 2049, 2050, 2052, 2055, 2057, 65535, 65532, 65537, 65544, 131072, 2040, 1368, 1376, 0, 1, 7, 8, 16, -1, -8, -2048, -4096, -65536, 1<<32, 1<<32+2048, least, least+8, least+2048, most, most-7)
	for _, stack := range []string{"Data", "Ret"} {
		add(stack, true, 1, 2, 3, 16, 64, 128, 254, 255, 256)
		add(stack, false, 0, 257, 258, 512, 1024, -1, -2, -255, -256, -257, 1<<32, 1<<32+1, -1<<32, least, least+1, most-1, most)
	}
	add("Words", true, 200, 201, 300, 512, 1000, 1023, 1024)
	add("Words", false, 199, 198, 167, 166, 1, 0, 1025, 1026, 2048, 65536, -1, -200, -300, -1024, 1<<32, 1<<32+200, -1<<32, least, least+200, most-1, most)
	add("Out", true, 0, 1, 2, 255, 4000, 65534, 65535, 65536)
	add("Out", false, -1, -2, 65537, 65538, 131072, -4000, -65536, 1<<32, 1<<32+1, -1<<32, least, least+1, most-1, most)
	return all
}

func TestFitsOfEachBoundOfEachNumber(t *testing.T) {
	for _, c := range goodConfs() {
		if !Fits(c) {
			t.Errorf("Fits of %v: no", c)
		}
		for field, around := range confsAround(c) {
			for d, want := range around {
				if got := Fits(d); got != want {
					t.Errorf("Fits, by its %s, of %v: %v", field, d, got)
				}
			}
		}
	}
}

func TestFitsOfEachMemory(t *testing.T) {
	for n := -100; n <= 66000; n++ {
		want := n >= 2048 && n <= 65536 && n%8 == 0
		if got := Fits(conf(n, 64, 64, 300, 4000)); got != want {
			t.Errorf("Fits with Mem %d: %v", n, got)
		}
	}
}

func TestFitsOfEachStackAndOfWords(t *testing.T) {
	for n := -300; n <= 1500; n++ {
		if got := Fits(conf(2048, n, 64, 300, 0)); got != (n >= 1 && n <= 256) {
			t.Errorf("Fits with Data %d: %v", n, got)
		}
		if got := Fits(conf(2048, 64, n, 300, 0)); got != (n >= 1 && n <= 256) {
			t.Errorf("Fits with Ret %d: %v", n, got)
		}
		if got := Fits(conf(2048, 64, 64, n, 0)); got != (n >= 200 && n <= 1024) {
			t.Errorf("Fits with Words %d: %v", n, got)
		}
	}
}

func TestFitsOfMoreThanOneNumberThatMayNotBe(t *testing.T) {
	for _, c := range []api.Conf{{}, conf(0, 0, 0, 0, -1), conf(2047, 1, 1, 199, 0), conf(65537, 257, 257, 1025, 65537), conf(64, 64, 64, 64, 64), conf(least, least, least, least, least), conf(most, most, most, most, most)} {
		if Fits(c) {
			t.Errorf("Fits of %v: yes", c)
		}
	}
}

// The chapter's example

func TestTheChaptersExample(t *testing.T) {
	v := made(t, conf(2048, 64, 64, 300, 100))
	if n, code := mem.Fetch(v.Mem, 0); n != 10 || code != api.OK {
		t.Error("BASE has", n, code)
	}
	for i, w := range v.Dict {
		if (w.Name == "DUP") != (w.Xt == 216) || (i == 23) != (w.Xt == 216) {
			t.Error(i, w)
		}
	}
	if n, code := Kind(v, 216); n != 23 || code != api.OK {
		t.Error("at 216 is", fmt.Sprint(n, code))
	}
}
