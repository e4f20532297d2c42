package cflow

import (
	"fmt"
	"slices"
	"strings"
	"testing"

	"detent/api"
	"detent/vm"
)

// numbers are cells of all kinds.
func numbers() []int {
	return []int{0, 1, -1, 5, 255, 256, -256, 1368, 1 << 32, -1 << 32, 0x0123456789abcdef, least, least + 1, most - 1, most}
}

// P13.1

func TestNames(t *testing.T) {
	want := []string{"IF", "ELSE", "THEN", "BEGIN", "WHILE", "REPEAT", "UNTIL", "AGAIN", "DO", "?DO", "LOOP", "+LOOP", "LEAVE"}
	first := Names()
	if !slices.Equal(first, want) {
		t.Error(first)
	}
	clear(first)
	if !slices.Equal(Names(), want) {
		t.Error("names are handed out to be written into:", Names())
	}
}

// many is a row of so many numbers.
func many(n int) []int {
	var l []int
	for i := range n {
		l = append(l, 1400+8*i)
	}
	return l
}

// rows is a row of so many brackets, the last of which is that one; of the others each kind is one.
func rows(n int, last api.Cf) []api.Cf {
	var l []api.Cf
	for i := range n - 1 {
		l = append(l, []api.Cf{{Kind: 1, At: 1376}, {Kind: 2, At: 1384}, {Kind: 3, At: 1392, Leaves: []int{1376}}}[i%3])
	}
	return append(l, last)
}

func TestRight(t *testing.T) {
	for i, x := range []struct {
		l    []api.Cf
		want bool
	}{
		{nil, true}, {[]api.Cf{}, true},
		{[]api.Cf{{Kind: 1}}, true}, {[]api.Cf{{Kind: 2}}, true}, {[]api.Cf{{Kind: 3}}, true},
		{[]api.Cf{{Kind: 0}}, false}, {[]api.Cf{{Kind: 4}}, false}, {[]api.Cf{{Kind: -1}}, false}, {[]api.Cf{{Kind: 256}}, false}, {[]api.Cf{{Kind: least}}, false}, {[]api.Cf{{Kind: most}}, false},
		{[]api.Cf{{Kind: 1 + 1<<32}}, false}, {[]api.Cf{{Kind: 3 + 1<<32}}, false},
		{[]api.Cf{{Kind: 1, Leaves: []int{}}}, true}, {[]api.Cf{{Kind: 2, Leaves: []int{}}}, true}, {[]api.Cf{{Kind: 3, Leaves: []int{}}}, true},
		{[]api.Cf{{Kind: 1, Leaves: many(1)}}, false}, {[]api.Cf{{Kind: 2, Leaves: many(1)}}, false}, {[]api.Cf{{Kind: 3, Leaves: many(1)}}, true},
		{[]api.Cf{{Kind: 1, Leaves: many(32)}}, false}, {[]api.Cf{{Kind: 0, Leaves: many(1)}}, false}, {[]api.Cf{{Kind: 4, Leaves: many(1)}}, false},
		{[]api.Cf{{Kind: 3, Leaves: many(31)}}, true}, {[]api.Cf{{Kind: 3, Leaves: many(32)}}, true}, {[]api.Cf{{Kind: 3, Leaves: many(33)}}, false}, {[]api.Cf{{Kind: 3, Leaves: many(64)}}, false},
		// Each loop has Leaves of its own.
		{[]api.Cf{{Kind: 3, Leaves: many(32)}, {Kind: 3, Leaves: many(32)}}, true},
		{rows(31, api.Cf{Kind: 1}), true}, {rows(32, api.Cf{Kind: 1}), true}, {rows(33, api.Cf{Kind: 1}), false}, {rows(64, api.Cf{Kind: 1}), false},
		{rows(32, api.Cf{Kind: 2}), true}, {rows(33, api.Cf{Kind: 2}), false}, {rows(32, api.Cf{Kind: 3}), true}, {rows(33, api.Cf{Kind: 3}), false},
		{rows(32, api.Cf{Kind: 3, Leaves: many(32)}), true}, {rows(32, api.Cf{Kind: 3, Leaves: many(33)}), false},
		// What isn't right is told wherever it stands.
		{[]api.Cf{{Kind: 0}, {Kind: 1}, {Kind: 2}}, false}, {[]api.Cf{{Kind: 1}, {Kind: 0}, {Kind: 2}}, false}, {[]api.Cf{{Kind: 1}, {Kind: 2}, {Kind: 0}}, false},
		{[]api.Cf{{Kind: 1, Leaves: many(1)}, {Kind: 3}}, false}, {[]api.Cf{{Kind: 3, Leaves: many(33)}, {Kind: 3}}, false},
		// Room behind a row isn't looked at.
		{rows(33, api.Cf{})[:32], true}, {[]api.Cf{{Kind: 3, Leaves: many(40)[:32]}}, true}, {[]api.Cf{{Kind: 1, Leaves: many(3)[:0]}}, true},
	} {
		if got := Right(x.l); got != x.want {
			t.Errorf("row %d: Right: %v", i, got)
		}
	}
}

func TestRightWhateverThePlacesAre(t *testing.T) {
	for _, at := range slices.Concat(numbers(), []int{-8, 1369, 2048, 65536}) {
		for kind := 1; kind <= 3; kind++ {
			if !Right([]api.Cf{{Kind: kind, At: at}}) {
				t.Error("of kind", kind, "At", at)
			}
		}
		if !Right([]api.Cf{{Kind: 3, Leaves: []int{at, 0, at, at}}}) {
			t.Error("a Leaf", at)
		}
	}
}

func TestSame(t *testing.T) {
	base := func() []api.Cf {
		return []api.Cf{{Kind: 1, At: 1376}, {Kind: 3, At: -5, Leaves: []int{1400, 1408}}, {Kind: 2, At: 0}}
	}
	one := func(turn func(l []api.Cf)) []api.Cf {
		l := base()
		turn(l)
		return l
	}
	for i, l := range [][]api.Cf{
		nil, base()[:1], base()[:2], base()[1:], append(base(), api.Cf{Kind: 2, At: 0}), append(base(), api.Cf{}),
		one(func(l []api.Cf) { l[0].Kind = 2 }), one(func(l []api.Cf) { l[1].Kind = 0 }), one(func(l []api.Cf) { l[2].Kind = 2 + 1<<32 }),
		one(func(l []api.Cf) { l[0].At = 1377 }), one(func(l []api.Cf) { l[1].At = 5 }), one(func(l []api.Cf) { l[2].At = 1 << 32 }), one(func(l []api.Cf) { l[2].At = least }),
		one(func(l []api.Cf) { l[1].Leaves[0] = 1401 }), one(func(l []api.Cf) { l[1].Leaves[1] = 1400 }), one(func(l []api.Cf) { l[1].Leaves[1] += 1 << 32 }),
		one(func(l []api.Cf) { l[1].Leaves = nil }), one(func(l []api.Cf) { l[1].Leaves = l[1].Leaves[:1] }), one(func(l []api.Cf) { l[1].Leaves = l[1].Leaves[1:] }),
		one(func(l []api.Cf) { l[1].Leaves = append(l[1].Leaves, 1416) }), one(func(l []api.Cf) { l[0].Leaves = []int{0} }), one(func(l []api.Cf) { l[2].Leaves = []int{1400, 1408} }),
		one(func(l []api.Cf) { slices.Reverse(l[1].Leaves) }), one(func(l []api.Cf) { slices.Reverse(l) }), one(func(l []api.Cf) { l[0], l[1] = l[1], l[0] }),
	} {
		if Same(l, base()) || Same(base(), l) {
			t.Errorf("row %d: the same", i)
		}
		if !Same(l, l) || !Same(l, roomyOpen(l)) || !Same(roomyOpen(l), l) {
			t.Errorf("row %d: not the same as itself", i)
		}
	}
	if !Same(base(), base()) || !Same(nil, []api.Cf{}) || !Same([]api.Cf{}, nil) || !Same([]api.Cf{{Leaves: []int{}}}, []api.Cf{{}}) {
		t.Error("what is the same")
	}
}

// P13.2

func TestLayAndLit(t *testing.T) {
	for _, n := range numbers() {
		for _, here := range []int{1368, 1440, 2024, 2032, 2040, 2048} {
			v := busy(t, here)
			lay := func(v api.Vm) (api.Vm, api.Throw) { return Lay(v, n) }
			if what := fmt.Sprint("Lay of ", n, " at ", here); here <= 2040 {
				check(t, what, v, lay, laid(v, n), api.OK)
			} else {
				check(t, what, v, lay, v, api.Space)
			}
			lit := func(v api.Vm) (api.Vm, api.Throw) { return Lit(v, n) }
			// At 2040 there is room for the first cell alone.
			if what := fmt.Sprint("Lit of ", n, " at ", here); here <= 2032 {
				check(t, what, v, lit, laid(v, litXt, n), api.OK)
			} else {
				check(t, what, v, lit, v, api.Space)
			}
		}
	}
}

// An end where no cell may stand: Align, also where there is no room.
func TestLayLitAndStrWhereNoCellMayStand(t *testing.T) {
	for _, here := range []int{1369, 1375, 1441, 1444, 1447, 2025, 2033, 2039, 2041, 2047} {
		v := busy(t, here)
		check(t, fmt.Sprint("Lay at ", here), v, func(v api.Vm) (api.Vm, api.Throw) { return Lay(v, 5) }, v, api.Align)
		check(t, fmt.Sprint("Lit at ", here), v, func(v api.Vm) (api.Vm, api.Throw) { return Lit(v, 5) }, v, api.Align)
		for _, s := range []string{"", "a", "abcdefgh", strings.Repeat("x", 3000)} {
			check(t, fmt.Sprint("Str of ", s, " at ", here), v, func(v api.Vm) (api.Vm, api.Throw) { return Str(v, s) }, v, api.Align)
		}
	}
}

// strByHand is a machine with a text laid.
func strByHand(v api.Vm, s string) api.Vm {
	v = laid(v, strXt, len(s))
	for _, b := range [][]byte{[]byte(s), make([]byte, (8-len(s)%8)%8)} {
		if len(b) > 0 {
			v = written(v, v.Here, b)
			v.Here += len(b)
		}
	}
	return v
}

// texts are such of no bytes, and of few and many, of all bytes that there are.
func texts() []string {
	all := make([]byte, 256)
	for i := range all {
		all[i] = byte(i)
	}
	l := []string{"\x00", "\x00\x00\x00", "a\x00b", "\x7f\x80\xff", "é", "漢字", "a b\"c", string(all)}
	for _, n := range []int{0, 1, 2, 6, 7, 8, 9, 15, 16, 17, 200} {
		l = append(l, strings.Repeat("x", n))
	}
	return l
}

func TestStr(t *testing.T) {
	for _, s := range texts() {
		for _, here := range []int{1368, 1440, 1736} {
			v := busy(t, here)
			want := strByHand(v, s)
			if want.Here%8 != 0 || want.Here < here+16+len(s) || want.Here >= here+16+len(s)+8 {
				t.Fatal(s, here, want.Here)
			}
			check(t, fmt.Sprintf("Str of %q at %d", s, here), v, func(v api.Vm) (api.Vm, api.Throw) { return Str(v, s) }, want, api.OK)
		}
	}
}

func TestStrByExample(t *testing.T) {
	v, code := Str(busy(t, 1440), "abc\xff\x00")
	if code != api.OK || v.Here != 1464 || cellAt(v, 1440) != 120 || cellAt(v, 1448) != 5 || string(v.Mem.B[1456:1464]) != "abc\xff\x00\x00\x00\x00" {
		t.Error(code, v.Here, v.Mem.B[1440:1464])
	}
}

// Where memory ends just behind the bytes, and where it ends ahead of their end.
func TestStrNearTheEndOfMemory(t *testing.T) {
	for _, n := range []int{0, 1, 7, 8, 9, 16, 17, 200} {
		s := strings.Repeat("y", n)
		needs := 16 + (n+7)/8*8
		for room := 0; room <= needs+16; room += 8 {
			v := busy(t, 2048-room)
			want, wantCode := v, api.Space
			if room >= needs {
				want, wantCode = strByHand(v, s), api.OK
			}
			check(t, fmt.Sprintf("Str of %d bytes, with room for %d", n, room), v, func(v api.Vm) (api.Vm, api.Throw) { return Str(v, s) }, want, wantCode)
		}
	}
	v := busy(t, 1368)
	check(t, "Str of more than memory has", v, func(v api.Vm) (api.Vm, api.Throw) { return Str(v, strings.Repeat("z", 70000)) }, v, api.Space)
}

// In the greatest memory, too.
func TestLayingUpToTheEndOfTheGreatestMemory(t *testing.T) {
	v, code := vm.New(api.Conf{Mem: 65536, Data: 1, Ret: 1, Words: 200})
	if code != api.OK {
		t.Fatal(code)
	}
	v.Here = 65520
	check(t, "Lit", v, func(v api.Vm) (api.Vm, api.Throw) { return Lit(v, -7) }, laid(v, litXt, -7), api.OK)
	check(t, "Str of none", v, func(v api.Vm) (api.Vm, api.Throw) { return Str(v, "") }, laid(v, strXt, 0), api.OK)
	check(t, "Str of one", v, func(v api.Vm) (api.Vm, api.Throw) { return Str(v, "a") }, v, api.Space)
	v.Here = 65528
	check(t, "Lay", v, func(v api.Vm) (api.Vm, api.Throw) { return Lay(v, -7) }, laid(v, -7), api.OK)
	check(t, "Lit", v, func(v api.Vm) (api.Vm, api.Throw) { return Lit(v, -7) }, v, api.Space)
}

// A primitive is laid as its code field, whatever words have its name, and also where there are no words.
func TestPrimitivesAreLaidByTheirCodeFields(t *testing.T) {
	for i, word := range []string{"(lit)", "(branch)", "(0branch)", "(do)", "(?do)", "(loop)", "(+loop)", "(str)", "UNLOOP"} {
		xt := []int{litXt, branchXt, branchIfNoXt, doXt, doIfAnyXt, loopXt, loopByXt, strXt, unloopXt}[i]
		if n, code := vm.Kind(fresh(t), xt); code != api.OK || vm.Names()[n] != word {
			t.Error(word, "stands elsewhere than at", xt)
		}
	}
	v := busy(t, 1440)
	v.Dict = nil
	got, _ := Lit(v, 5)
	if cellAt(got, 1440) != litXt {
		t.Error(cellAt(got, 1440))
	}
}
