package cflow

import (
	"fmt"
	"reflect"
	"slices"
	"strings"
	"testing"

	"detent/api"
	"detent/vm"
)

// given is what a bracket should do: of the last open brackets it asks for some, lays cells, stores Here at places, and leaves others in their stead.
type given struct {
	name  string
	asks  []api.Cf
	lays  []int
	leads []int
	opens []api.Cf
}

// l is a row of open brackets.
func l(b ...api.Cf) []api.Cf { return b }

// orig, dest and loop are open brackets.
func orig(at int) api.Cf { return api.Cf{Kind: 1, At: at} }

func dest(at int) api.Cf { return api.Cf{Kind: 2, At: at} }

func loop(at int, leaves ...int) api.Cf { return api.Cf{Kind: 3, At: at, Leaves: leaves} }

// cases are what the table tells, where Here is h.
func cases(h int) []given {
	out := []given{
		{name: "IF", lays: []int{56, 0}, opens: l(orig(h + 8))},
		{name: "ELSE", asks: l(orig(1400)), lays: []int{48, 0}, leads: []int{1400}, opens: l(orig(h + 8))},
		{name: "THEN", asks: l(orig(1400)), leads: []int{1400}},
		{name: "BEGIN", opens: l(dest(h))},
		{name: "WHILE", asks: l(dest(1384)), lays: []int{56, 0}, opens: l(orig(h+8), dest(1384))},
		{name: "REPEAT", asks: l(orig(1400), dest(1384)), lays: []int{48, 1384}, leads: []int{1400}},
		{name: "DO", lays: []int{64}, opens: l(loop(h + 8))},
		{name: "?DO", lays: []int{72, 0}, opens: l(loop(h+16, h+8))},
		{name: "LEAVE", asks: l(loop(1392)), lays: []int{168, 48, 0}, opens: l(loop(1392, h+16))},
		{name: "LEAVE", asks: l(loop(1392, 1416, 1408)), lays: []int{168, 48, 0}, opens: l(loop(1392, 1416, 1408, h+16))},
		// Within other brackets in the loop, and in the innermost of several loops.
		{name: "LEAVE", asks: l(loop(1392), orig(1400)), lays: []int{168, 48, 0}, opens: l(loop(1392, h+16), orig(1400))},
		{name: "LEAVE", asks: l(loop(1392, 1408), orig(1400), dest(1384), orig(1376)), lays: []int{168, 48, 0}, opens: l(loop(1392, 1408, h+16), orig(1400), dest(1384), orig(1376))},
		{name: "LEAVE", asks: l(loop(1392, 1408), loop(1368, 1416)), lays: []int{168, 48, 0}, opens: l(loop(1392, 1408), loop(1368, 1416, h+16))},
		{name: "LEAVE", asks: l(loop(1392, 1408), dest(1400), loop(1368), dest(1384)), lays: []int{168, 48, 0}, opens: l(loop(1392, 1408), dest(1400), loop(1368, h+16), dest(1384))},
		// At the first place of memory, at its last one, and where cells were just laid.
		{name: "THEN", asks: l(orig(0)), leads: []int{0}}, {name: "THEN", asks: l(orig(2040)), leads: []int{2040}},
		{name: "ELSE", asks: l(orig(2040)), lays: []int{48, 0}, leads: []int{2040}, opens: l(orig(h + 8))},
		{name: "ELSE", asks: l(orig(h + 8)), lays: []int{48, 0}, leads: []int{h + 8}, opens: l(orig(h + 8))},
		{name: "REPEAT", asks: l(orig(h), dest(h)), lays: []int{48, h}, leads: []int{h}},
	}
	for name, xt := range map[string]int{"UNTIL": 56, "AGAIN": 48} {
		for _, at := range slices.Concat(numbers(), []int{1384, 1385, h}) {
			out = append(out, given{name: name, asks: l(dest(at)), lays: []int{xt, at}})
		}
	}
	for name, xt := range map[string]int{"LOOP": 80, "+LOOP": 88} {
		for _, at := range slices.Concat(numbers(), []int{1392, 1393, h}) {
			out = append(out, given{name: name, asks: l(loop(at)), lays: []int{xt, at}})
		}
		for _, leaves := range [][]int{{1408}, {1408, 1416}, {1432, 1408, 1424, 1408}, {h + 8, h}, {0, 2040}, many(32)} {
			out = append(out, given{name: name, asks: l(loop(1392, leaves...)), lays: []int{xt, 1392}, leads: leaves})
		}
	}
	return out
}

// expect holds what Bracket answers against what it should, and asks that it changes nothing that it was given, and that all stays right.
func expect(t *testing.T, what string, v api.Vm, open []api.Cf, name string, want api.Vm, wantOpen []api.Cf, wantCode api.Throw) {
	t.Helper()
	for _, open := range [][]api.Cf{open, roomyOpen(open)} {
		kept := whole(open)
		check(t, what, v, func(v api.Vm) (api.Vm, api.Throw) {
			got, gotOpen, code := Bracket(v, open, name)
			if openDiffer(gotOpen, wantOpen) {
				t.Errorf("%s: open %v, want %v", what, gotOpen, wantOpen)
			}
			if !Right(gotOpen) {
				t.Errorf("%s: open %v isn't right", what, gotOpen)
			}
			return got, code
		}, want, wantCode)
		if !reflect.DeepEqual(whole(open), kept) {
			t.Errorf("%s changes the open brackets that it was given", what)
		}
	}
}

// refused asks that a bracket has a code, and changes nothing.
func refused(t *testing.T, what string, v api.Vm, open []api.Cf, name string, code api.Throw) {
	t.Helper()
	expect(t, what, v, open, name, v, open, code)
}

// beneath are rows of brackets that are open beneath those that are asked for.
func beneath() [][]api.Cf {
	return [][]api.Cf{nil, l(orig(1376)), l(dest(-5)), l(loop(1377, -8, 3)), l(loop(1376), dest(1384), orig(1400), orig(1400), dest(1368), loop(1376, 1408))}
}

// P13.3

func TestWhatEachBracketDoes(t *testing.T) {
	for _, h := range []int{1368, 1440, 2016} {
		for i, g := range cases(h) {
			for _, low := range beneath() {
				v := busy(t, h)
				want := ledHere(laid(v, g.lays...), g.leads...)
				expect(t, fmt.Sprintf("case %d, %s at %d, above %v", i, g.name, h, low), v, slices.Concat(low, g.asks), g.name, want, slices.Concat(low, g.opens), api.OK)
			}
		}
	}
}

// Each bracket has a case.
func TestEachBracketHasACase(t *testing.T) {
	has := map[string]bool{}
	for _, g := range cases(1440) {
		has[g.name] = true
	}
	for _, name := range Names() {
		if !has[name] {
			t.Error("no case of", name)
		}
	}
	if len(has) != 13 || len(deeds()) != 13 {
		t.Error(len(has), len(deeds()))
	}
}

// Space at each cell that a bracket lays, but for the last one.
func TestBracketsNearTheEndOfMemory(t *testing.T) {
	for room := range 5 {
		h := 2048 - 8*room
		for i, g := range cases(h) {
			v := busy(t, h)
			what := fmt.Sprintf("case %d, %s with room for %d cells", i, g.name, room)
			if room < len(g.lays) {
				refused(t, what, v, g.asks, g.name, api.Space)
				continue
			}
			if slices.ContainsFunc(g.leads, func(at int) bool { return at > 2040 }) {
				continue
			}
			expect(t, what, v, g.asks, g.name, ledHere(laid(v, g.lays...), g.leads...), g.opens, api.OK)
		}
	}
}

// An end where no cell may stand: Align for what lays a cell. What lays none has no code of that.
func TestBracketsWhereNoCellMayStand(t *testing.T) {
	for _, h := range []int{1369, 1441, 1444, 1447, 2041, 2047} {
		for i, g := range cases(h) {
			v := busy(t, h)
			what := fmt.Sprintf("case %d, %s at %d", i, g.name, h)
			if len(g.lays) > 0 {
				refused(t, what, v, g.asks, g.name, api.Align)
				continue
			}
			expect(t, what, v, g.asks, g.name, ledHere(v, g.leads...), g.opens, api.OK)
		}
	}
}

// wants tells of rows of kinds whether a name's brackets are there.
func wants(name string, kinds []int) bool {
	ends := func(tail ...int) bool {
		return len(kinds) >= len(tail) && slices.Equal(kinds[len(kinds)-len(tail):], tail)
	}
	switch name {
	case "ELSE", "THEN":
		return ends(1)
	case "WHILE", "UNTIL", "AGAIN":
		return ends(2)
	case "REPEAT":
		return ends(1, 2)
	case "LOOP", "+LOOP":
		return ends(3)
	case "LEAVE":
		return slices.Contains(kinds, 3)
	}
	return true
}

// kindRows are all rows of so many kinds at most.
func kindRows(most int) [][]int {
	out := [][]int{nil}
	for from := 0; most > 0; most-- {
		end := len(out)
		for _, row := range out[from:end] {
			for kind := 1; kind <= 3; kind++ {
				out = append(out, append(slices.Clone(row), kind))
			}
		}
		from = end
	}
	return out
}

// Control just where the brackets aren't there, ahead of all other codes.
func TestBracketsThatArentThere(t *testing.T) {
	rows := kindRows(4)
	if len(rows) != 1+3+9+27+81 {
		t.Fatal(len(rows))
	}
	for _, kinds := range rows {
		var open []api.Cf
		for i, kind := range kinds {
			open = append(open, api.Cf{Kind: kind, At: 1400 + 8*i})
		}
		for _, name := range Names() {
			what := fmt.Sprint(name, " of ", kinds)
			if !wants(name, kinds) {
				for _, h := range []int{1440, 1441, 2040, 2047, 2048} {
					refused(t, what, busy(t, h), open, name, api.Control)
				}
			} else if _, _, code := Bracket(busy(t, 1440), open, name); code != api.OK {
				t.Error(what, code)
			}
		}
	}
}

// Control ahead of what is stored, too: in places that aren't there.
func TestControlComesAheadOfWhatIsStored(t *testing.T) {
	v := busy(t, 1440)
	refused(t, "REPEAT of a CDest ahead of its COrig", v, l(dest(-8), orig(-8)), "REPEAT", api.Control)
	refused(t, "REPEAT of a CDest alone", v, l(dest(-8)), "REPEAT", api.Control)
	refused(t, "REPEAT of two CDests", v, l(orig(-8), dest(-8), dest(-8)), "REPEAT", api.Control)
	refused(t, "LOOP beneath an IF", v, l(loop(1392, -8), orig(-8)), "LOOP", api.Control)
	refused(t, "ELSE above a CDest", v, l(orig(-8), dest(1400)), "ELSE", api.Control)
}

func TestNamesThatThereArent(t *testing.T) {
	open := l(loop(1392), orig(1400), dest(1384))
	names := []string{"", " ", "EXIT", "UNLOOP", "(do)", "(branch)", "DUP", "I", "ENDIF", "0", "\x00", "İF", strings.Repeat("IF", 40000)}
	for _, name := range Names() {
		names = append(names, name+"S", name+" ", " "+name, name[1:], name[:len(name)-1]+"x", "("+name+")")
		if small := strings.ToLower(name); small != name {
			names = append(names, small, name[:1]+small[1:])
		}
	}
	for _, name := range names {
		if slices.Contains(Names(), name) {
			// Without the first sign of +LOOP and of ?DO there are LOOP and DO.
			continue
		}
		for _, h := range []int{1440, 1441, 2048} {
			for _, open := range [][]api.Cf{nil, open, l(orig(-8))} {
				refused(t, fmt.Sprintf("%.20q at %d of %v", name, h, open), busy(t, h), open, name, api.Control)
			}
		}
	}
}

// 32 may be open, and no more.
func TestHowManyBracketsMayBeOpen(t *testing.T) {
	for i, g := range cases(1440) {
		for many := len(g.asks); many <= 32; many++ {
			if many < 30 && many > len(g.asks) {
				continue
			}
			low := rows(many-len(g.asks)+1, api.Cf{})[:many-len(g.asks)]
			open := slices.Concat(low, g.asks)
			what := fmt.Sprintf("case %d, %s of %d brackets", i, g.name, many)
			if behind := slices.Concat(low, g.opens); len(behind) <= 32 {
				v := busy(t, 1440)
				expect(t, what, v, open, g.name, ledHere(laid(v, g.lays...), g.leads...), behind, api.OK)
				continue
			}
			for _, h := range []int{1440, 1441, 2040, 2048} {
				refused(t, what, busy(t, h), open, g.name, api.Control)
			}
		}
	}
}

// By hand: of 32 just these open one more.
func TestWhichBracketsOpenAThirtyThird(t *testing.T) {
	for _, name := range Names() {
		last := map[string]api.Cf{"ELSE": orig(1400), "THEN": orig(1400), "WHILE": dest(1400), "UNTIL": dest(1400), "AGAIN": dest(1400), "REPEAT": dest(1400)}
		b, known := last[name]
		if !known {
			b = loop(1392)
		}
		open := rows(32, b)
		open[30] = orig(1408)
		_, _, code := Bracket(busy(t, 1440), open, name)
		opens := slices.Contains([]string{"IF", "WHILE", "BEGIN", "DO", "?DO"}, name)
		if opens && code != api.Control || !opens && code != api.OK {
			t.Error(name, code)
		}
		if _, _, code := Bracket(busy(t, 1440), open[1:], name); code != api.OK {
			t.Error(name, "of 31:", code)
		}
	}
}

// A loop may be left from 32 places, each loop for itself.
func TestHowManyTimesALoopMayBeLeft(t *testing.T) {
	for _, low := range [][]api.Cf{nil, l(loop(1376, many(32)...)), l(loop(1376), loop(1384, 1408))} {
		for _, high := range [][]api.Cf{nil, l(orig(1400)), l(dest(1384), orig(1400), dest(1384))} {
			for n := range 33 {
				v := busy(t, 1440)
				open := slices.Concat(low, l(loop(1392, many(n)...)), high)
				what := fmt.Sprintf("LEAVE of %v", open)
				if n < 32 {
					behind := slices.Concat(low, l(loop(1392, append(many(n), 1456)...)), high)
					expect(t, what, v, open, "LEAVE", laid(v, 168, 48, 0), behind, api.OK)
					continue
				}
				for _, h := range []int{1440, 1441, 2040, 2048} {
					refused(t, what, busy(t, h), open, "LEAVE", api.Control)
				}
			}
		}
	}
}

// ?DO's own place counts.
func TestHowManyTimesALoopOfAnyMayBeLeft(t *testing.T) {
	v, code := vm.New(api.Conf{Mem: 4096, Data: 1, Ret: 1, Words: 200})
	if code != api.OK {
		t.Fatal(code)
	}
	v, open, code := Bracket(v, nil, "?DO")
	for n := 1; n <= 32; n++ {
		if code != api.OK || len(open) != 1 || len(open[0].Leaves) != n {
			t.Fatal(n, code, open)
		}
		v, open, code = Bracket(v, open, "LEAVE")
	}
	if code != api.Control || len(open) != 1 || len(open[0].Leaves) != 32 {
		t.Error(code, open)
	}
}

// Where Here is to be stored, and can't.
func TestPlacesThatArentThere(t *testing.T) {
	codes := map[int]api.Throw{1: -23, 7: -23, 1369: -23, 1404: -23, 2036: -23, 2039: -23, 2041: -9, 2044: -9, 2047: -9, 2048: -9, 2056: -9, 65536: -9, 1 << 32: -9, most: -9, most - 7: -9, -1: -9, -8: -9, least: -9}
	for at, code := range codes {
		for _, low := range beneath() {
			for name, asks := range map[string][]api.Cf{
				"ELSE": l(orig(at)), "THEN": l(orig(at)), "REPEAT": l(orig(at), dest(1384)), "LOOP": l(loop(1392, at)), "+LOOP": l(loop(1392, 1408, 1416, at, 1424)),
			} {
				open := slices.Concat(low, asks)
				refused(t, fmt.Sprintf("%s of %v", name, open), busy(t, 1440), open, name, code)
				if name == "THEN" {
					// It lays nothing: there is no other code ahead of it.
					refused(t, fmt.Sprintf("THEN of %v, no room", open), busy(t, 2048), open, name, code)
					refused(t, fmt.Sprintf("THEN of %v, where no cell may stand", open), busy(t, 1441), open, name, code)
					continue
				}
				refused(t, fmt.Sprintf("%s of %v, no room", name, open), busy(t, 2048), open, name, api.Space)
				refused(t, fmt.Sprintf("%s of %v, room for one cell", name, open), busy(t, 2040), open, name, api.Space)
				refused(t, fmt.Sprintf("%s of %v, where no cell may stand", name, open), busy(t, 1441), open, name, api.Align)
			}
		}
	}
	// Of several the first one's.
	refused(t, "the first Leaf", busy(t, 1440), l(loop(1392, 1408, -8, 1409)), "LOOP", api.Address)
	refused(t, "the first Leaf", busy(t, 1440), l(loop(1392, 1408, 1409, -8)), "+LOOP", api.Align)
	// Leaves are stored at by LOOP and +LOOP alone, a place to go back to by none.
	for name, asks := range map[string][]api.Cf{"LEAVE": l(loop(-8, 1409, -8)), "WHILE": l(dest(-9)), "UNTIL": l(dest(-9)), "AGAIN": l(dest(1409)), "REPEAT": l(orig(1400), dest(-9))} {
		if _, _, code := Bracket(busy(t, 1440), asks, name); code != api.OK {
			t.Error(name, asks, code)
		}
	}
}

// The chapter's example, and others that are told cell by cell.
func TestByExample(t *testing.T) {
	for _, x := range []struct {
		words string
		cells []int
	}{
		{"IF THEN", []int{56, 1384}},
		{"IF 1 THEN", []int{56, 1400, 40, 1}},
		{"IF 1 ELSE 2 THEN 3", []int{56, 1416, 40, 1, 48, 1432, 40, 2, 40, 3}},
		{"IF IF THEN THEN", []int{56, 1400, 56, 1400}},
		{"IF IF THEN ELSE THEN", []int{56, 1416, 56, 1400, 48, 1416}},
		{"BEGIN UNTIL", []int{56, 1368}},
		{"BEGIN 1 UNTIL", []int{40, 1, 56, 1368}},
		{"1 BEGIN AGAIN", []int{40, 1, 48, 1384}},
		{"BEGIN 1 WHILE 2 REPEAT", []int{40, 1, 56, 1432, 40, 2, 48, 1368}},
		// The inner WHILE goes behind REPEAT, the outer one behind THEN.
		{"BEGIN 1 WHILE 2 WHILE 3 REPEAT 4 THEN", []int{40, 1, 56, 1480, 40, 2, 56, 1464, 40, 3, 48, 1368, 40, 4}},
		{"BEGIN WHILE UNTIL THEN", []int{56, 1400, 56, 1368}},
		{"BEGIN WHILE UNTIL ELSE THEN", []int{56, 1416, 56, 1368, 48, 1416}},
		{"DO LOOP", []int{64, 80, 1376}},
		{"DO 1 +LOOP", []int{64, 40, 1, 88, 1376}},
		{"?DO LOOP", []int{72, 1400, 80, 1384}},
		{"?DO 1 +LOOP 2", []int{72, 1416, 40, 1, 88, 1384, 40, 2}},
		{"DO LEAVE LOOP", []int{64, 168, 48, 1416, 80, 1376}},
		{"?DO LEAVE LEAVE LOOP", []int{72, 1448, 168, 48, 1448, 168, 48, 1448, 80, 1384}},
		{"DO IF LEAVE THEN LOOP", []int{64, 56, 1416, 168, 48, 1432, 80, 1376}},
		{"DO IF LEAVE ELSE LEAVE THEN LOOP", []int{64, 56, 1432, 168, 48, 1472, 48, 1456, 168, 48, 1472, 80, 1376}},
		{"DO BEGIN LEAVE AGAIN LOOP", []int{64, 168, 48, 1432, 48, 1376, 80, 1376}},
		{"DO LEAVE ?DO LEAVE LOOP LEAVE +LOOP", []int{64, 168, 48, 1496, 72, 1456, 168, 48, 1456, 80, 1416, 168, 48, 1496, 88, 1376}},
		{"DO LOOP DO LOOP", []int{64, 80, 1376, 64, 80, 1400}},
	} {
		v, open := fresh(t), []api.Cf(nil)
		for i, word := range strings.Fields(x.words) {
			var code api.Throw
			if len(word) == 1 {
				v, code = Lit(v, int(word[0]-'0'))
			} else {
				v, open, code = Bracket(v, open, word)
			}
			if code != api.OK {
				t.Fatalf("%s, word %d: %d", x.words, i, code)
			}
		}
		var cells []int
		for at := 1368; at < v.Here; at += 8 {
			cells = append(cells, cellAt(v, at))
		}
		if len(open) != 0 || !slices.Equal(cells, x.cells) {
			t.Errorf("%s: %v, want %v, open %v", x.words, cells, x.cells, open)
		}
	}
}
