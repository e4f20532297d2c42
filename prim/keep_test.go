package prim

import (
	"fmt"
	"math/rand"
	"slices"
	"testing"

	"detent/api"
	"detent/vm"
)

// cellsThatMatter are cells of which words make something: numbers, places, and such that may be neither.
func cellsThatMatter(r *rand.Rand) int {
	some := []int{
		0, 1, 2, 3, 4, 5, 8, 10, 16, 24, 32, -1, -2, -8, 63, 64, 100, 216, 1368, 1376, 1400, 1401, 1408, 1912, 2032, 2039, 2040, 2047, 2048, 2049,
		1 << 32, 1<<32 - 1, 1 << 61, 1 << 62, least, least + 1, most, most - 7,
	}
	return some[r.Intn(len(some))]
}

// machines are right machines: new ones, busy ones, and such that are full.
func machines(t *testing.T) []api.Vm {
	t.Helper()
	full := busy(t)
	full.Here, full.Free, full.Next = 2048, 0, 1<<62
	asks(16)(&full)
	left(0)(&full)
	full.Pic = api.Pic{B: bytesOf(130, 'x'), On: true}
	odd := busy(t)
	cells(0, 37, 1400, 1, 1408, 3)(&odd)
	odd.Here, odd.Hand = 1441, nil
	off(&odd)
	least := made(t, api.Conf{Mem: 2048, Data: 1, Ret: 1, Words: 200})
	deepest := made(t, api.Conf{Mem: 2056, Data: 256, Ret: 256, Words: 1024, Out: 65536})
	states := busy(t)
	cells(1392, 260, 1400, 1, 1408, 1<<61, 1416, 5)(&states)
	left(3)(&states)
	timers(0, 9)(&states)
	return []api.Vm{plain(t), busy(t), full, odd, least, deepest, states, roomy(busy(t)), roomy(full)}
}

// someStack is a stack of so many cells at most.
func someStack(r *rand.Rand, most int) []int {
	d := make([]int, r.Intn(most+1))
	for i := range d {
		d[i] = cellsThatMatter(r)
	}
	return d
}

// P11.3: machines stay right; with a code nothing is changed; Under comes just where there are too few cells.
func TestMachinesStayRightAndWithACodeNothingIsChanged(t *testing.T) {
	r := rand.New(rand.NewSource(16))
	codes := map[api.Throw]int{}
	numbers, takes := numbersByHand(), takes()
	for _, name := range namesInOrder() {
		n, many := numbers[name], takes[name]
		for _, v := range machines(t) {
			for i := range 60 {
				v := deep(v)
				v.D = someStack(r, min(v.Conf.Data, 7))
				if d := ready(name); i%4 == 0 && len(d) <= v.Conf.Data {
					v.D = d
				}
				if !vm.Right(v) {
					t.Fatal("the machine isn't right ahead of", name)
				}
				kept := whole(v)
				got, code := Do(v, n)
				codes[code]++
				what := fmt.Sprint(name, " of ", v.D)
				if !vm.Right(got) {
					t.Errorf("%s: the machine isn't right behind it", what)
				}
				if code != api.OK {
					expect(t, what, got, code, v, code)
				}
				if part := differs(whole(v), kept); part != "" {
					t.Errorf("%s changes what it was given: %s", what, part)
				}
				if few := len(v.D) < many[0]; few && code != api.Under || !few && code == api.Under && name != "PICK" && name != "ROLL" {
					t.Errorf("%s: %d", what, code)
				}
			}
		}
	}
	for _, code := range []api.Throw{0, -1, -3, -4, -8, -9, -10, -11, -17, -23, -24, -31, -257, -258, -259, -260} {
		if codes[code] == 0 {
			t.Errorf("code %d never came", code)
		}
	}
	if len(codes) != 16 {
		t.Error(codes)
	}
}

// parts are the parts of a machine that a word may change, beside its stack.
func parts(name string) []string {
	switch name {
	case "!", "+!", "C!", "2!", "FILL", "MOVE", "DECIMAL", "HEX", "SET-STATE", "AT-STATE":
		return []string{"Mem"}
	case ",", "C,", "ALIGN":
		return []string{"Mem", "Here"}
	case "ALLOT":
		return []string{"Here"}
	case "EMIT", "CR", "SPACE", "SPACES", "TYPE", ".", "U.":
		return []string{"Out"}
	case "<#", "#", "#S", "HOLD", "SIGN":
		return []string{"Pic"}
	case "#>":
		return []string{"Mem", "Pic"}
	case "POST", "CANCEL":
		return []string{"Req"}
	case "AFTER", "EVERY":
		return []string{"Req", "Free", "Next"}
	}
	return nil
}

// R4: each word leaves all else of a machine as it is.
func TestEachWordLeavesAllElseAsItIs(t *testing.T) {
	for i, g := range cases() {
		v := g.machine(busy(t), []int{91, 92})
		got, _ := do(t, v, g.name)
		got.D = v.D
		may := parts(g.name)
		for part, turn := range map[string]func(){
			"Mem": func() { got.Mem = v.Mem }, "Here": func() { got.Here = v.Here }, "Out": func() { got.Out = v.Out }, "Pic": func() { got.Pic = v.Pic },
			"Req": func() { got.Req = v.Req }, "Free": func() { got.Free = v.Free }, "Next": func() { got.Next = v.Next },
		} {
			if slices.Contains(may, part) {
				turn()
			}
		}
		if part := differs(got, v); part != "" {
			t.Errorf("case %d: %s changes %s", i, g.name, part)
		}
	}
}

// R4: what a call answers hangs on its arguments alone.
func TestWhatACallAnswersHangsOnItsArgumentsAlone(t *testing.T) {
	for i, g := range cases() {
		v := g.machine(busy(t), []int{91, 92})
		first, firstCode := do(t, v, g.name)
		for _, other := range []api.Vm{v, deep(v), roomy(v)} {
			got, code := do(t, other, g.name)
			expect(t, fmt.Sprint("case ", i, ", ", g.name, " once more"), got, code, first, firstCode)
		}
	}
}

// willing is a machine on which each word but ABORT has no code, if its cells are those that ready tells.
func willing(t *testing.T) api.Vm {
	t.Helper()
	v := busy(t)
	cells(1400, 1, 1408, 3, 1416, 257)(&v)
	v.Here = 1441 + 7
	return v
}

// ready are cells on which a word has no code.
func ready(name string) []int {
	switch name {
	case "POST":
		return s(5, 1, 2)
	case "AFTER", "EVERY":
		return s(5, 1, 2, 3)
	case "!", "+!", "C!":
		return s(5, 1400)
	case "2!":
		return s(5, 6, 1400)
	case "SET-STATE":
		return s(2, 1400)
	case "AT-STATE":
		return s(5, 2, 1400)
	case "@", "C@", "2@", "COUNT", "GET-STATE":
		return s(1400)
	case ">BODY":
		return s(1416)
	case "FILL":
		return s(1400, 5, 7)
	case "MOVE":
		return s(1368, 1400, 5)
	case "TYPE":
		return s(1400, 5)
	case "PICK", "ROLL":
		return s(6, 7, 8, 1)
	case "UM/MOD", "SM/REM", "FM/MOD":
		return s(5, 1, 7)
	}
	return s(6, 7, 8, 9)
}

// R3: of each two words, the second one is done on the same machine as the first one, and on what that one answered: what both were given, and what the first one answered, stays.
func TestNoCallChangesWhatAnEarlierOneAnswered(t *testing.T) {
	numbers := numbersByHand()
	for _, v := range []api.Vm{willing(t), roomy(willing(t))} {
		for first, n := range numbers {
			a := with(v, ready(first)...)
			a = roomy(a)
			x, code := Do(a, n)
			if (code != api.OK) != (first == "ABORT") {
				t.Fatalf("%s of %v: %d", first, a.D, code)
			}
			kept, answered := whole(a), whole(x)
			for second, m := range numbers {
				Do(a, m)
				y, _ := Do(x, m)
				// The same machines again, with cells on which the second word has no code.
				b, z := a, x
				b.D, z.D = ready(second), ready(second)
				Do(b, m)
				w, _ := Do(z, m)
				Do(y, n)
				Do(w, n)
				if part := differs(whole(a), kept); part != "" {
					t.Fatalf("%s, %s change what they were given: %s", first, second, part)
				}
				if part := differs(whole(x), answered); part != "" {
					t.Fatalf("%s changes what %s answered: %s", second, first, part)
				}
			}
		}
	}
}

// Two words on the same machine: each has its own answer.
func TestTwoWordsOnOneMachine(t *testing.T) {
	v := roomy(with(willing(t), 7, 8))
	a, b := done(t, v, "DUP"), done(t, v, "OVER")
	c, d := done(t, with(a, 65), "EMIT"), done(t, with(a, 66), "EMIT")
	e, f := done(t, with(a, 67), "HOLD"), done(t, with(a, 68), "HOLD")
	g, h := done(t, with(a, 69, 1, 1), "POST"), done(t, with(a, 70, 1, 1), "POST")
	i, j := done(t, with(a, 71), ","), done(t, with(a, 72), ",")
	if !slices.Equal(v.D, s(7, 8)) || !slices.Equal(a.D, s(7, 8, 8)) || !slices.Equal(b.D, s(7, 8, 7)) {
		t.Error(v.D, a.D, b.D)
	}
	if string(c.Out) != "25 -7 A" || string(d.Out) != "25 -7 B" || string(e.Pic.B) != "321C" || string(f.Pic.B) != "321D" {
		t.Errorf("%q %q %q %q", c.Out, d.Out, e.Pic.B, f.Pic.B)
	}
	if g.Req[2].Arg != 69 || h.Req[2].Arg != 70 || i.Mem.B[1448] != 71 || j.Mem.B[1448] != 72 {
		t.Error(g.Req, h.Req, i.Mem.B[1448], j.Mem.B[1448])
	}
}

// Words one behind the other, at random: machines stay right all the way.
func TestMachinesStayRightAllTheWay(t *testing.T) {
	r := rand.New(rand.NewSource(17))
	for _, v := range machines(t) {
		for range 400 {
			v = deep(v)
			if r.Intn(2) == 0 && len(v.D) < v.Conf.Data {
				v.D = append(v.D, cellsThatMatter(r))
			}
			n := 23 + r.Intn(107)
			got, code := Do(v, n)
			if code != api.OK {
				expect(t, vm.Names()[n], got, code, v, code)
			}
			if !vm.Right(got) {
				t.Fatalf("behind %s the machine isn't right", vm.Names()[n])
			}
			v = got
			if len(v.Mem.Old) > 20 {
				v.Mem.Old = nil
			}
		}
	}
}
