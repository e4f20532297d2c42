package inner

import (
	"fmt"
	"slices"
	"testing"

	"detent/api"
	"detent/vm"
)

// A program is laid from 1400 on, cell by cell: a number stands for itself, a name for where that primitive's code field stands.
func laid(t *testing.T, v api.Vm, at int, code ...any) api.Vm {
	t.Helper()
	v = deep(v)
	for i, x := range code {
		switch x := x.(type) {
		case int:
			cells(&v, at+8*i, x)
		case string:
			cells(&v, at+8*i, place(t, x))
		default:
			t.Fatal(x)
		}
	}
	return v
}

// program is a definition at 1400, on a machine that has nothing but some cells on D.
func program(t *testing.T, d []int, code ...any) api.Vm {
	t.Helper()
	v := laid(t, plain(t), 1400, append([]any{256}, code...)...)
	v.D = d
	return v
}

// expectRun holds a run against what it should leave.
func expectRun(t *testing.T, what string, v api.Vm, xt, fuel int, want api.Vm, wantLeft int, wantCode api.Throw) {
	t.Helper()
	r := roomy(api.Run{Vm: v})
	kept := whole(r)
	got, left, code := Run(r.Vm, xt, fuel)
	if left != wantLeft || code != wantCode {
		t.Errorf("%s with fuel of %d: %d left, code %d, want %d, %d", what, fuel, left, code, wantLeft, wantCode)
	}
	if part := machinesDiffer(got, want); part != "" {
		t.Errorf("%s with fuel of %d: %s", what, fuel, part)
	}
	if !vm.Right(got) {
		t.Errorf("%s: the machine isn't right behind it", what)
	}
	if part := differs(whole(r), kept); part != "" {
		t.Errorf("%s changes what it was given: %s", what, part)
	}
}

// leaves is a machine with just these cells on D, and without R and frames.
func leaves(v api.Vm, d ...int) api.Vm {
	v = deep(v)
	v.D, v.R, v.F = d, nil, nil
	return v
}

// P12.3

func TestTheChaptersExample(t *testing.T) {
	v := program(t, nil, "(lit)", 5, "DUP", "*", "(exit)")
	for fuel, d := range map[int][]int{least: nil, -1: nil, 0: nil, 1: nil, 2: s(5), 3: s(5, 5), 4: s(25), 5: s(25)} {
		expectRun(t, "the example", v, 1400, fuel, leaves(v, d...), 0, -256)
	}
	for fuel := 6; fuel <= 12; fuel++ {
		expectRun(t, "the example", v, 1400, fuel, leaves(v, 25), fuel-6, api.OK)
	}
	expectRun(t, "the example", v, 1400, most, leaves(v, 25), most-6, api.OK)
}

func TestRunOfAPrimitive(t *testing.T) {
	v := plain(t)
	v.D = s(7)
	for fuel, left := range map[int]int{2: 0, 3: 1, 100: 98} {
		expectRun(t, "DUP", v, 216, fuel, leaves(v, 7, 7), left, api.OK)
	}
	expectRun(t, "DUP", v, 216, 1, leaves(v, 7, 7), 0, -256)
	expectRun(t, "DUP", v, 216, 0, leaves(v, 7), 0, -256)
	for fuel, left := range map[int]int{1: 0, 2: 1, most: most - 1} {
		expectRun(t, "(halt)", v, 96, fuel, leaves(v, 7), left, api.OK)
	}
	expectRun(t, "(halt)", v, 96, 0, leaves(v, 7), 0, -256)
	// Behind the word the cell at 16 is next, whatever stands there.
	cells(&v, 16, 216)
	expectRun(t, "DUP, DUP, and (caught)", v, 216, 9, leaves(v, 7, 7, 7), 6, -6)
	cells(&v, 16, 5)
	expectRun(t, "DUP, and no word", v, 216, 9, leaves(v, 7, 7), 7, -23)
	// A nought is the number of (exit).
	expectRun(t, "nought", v, 1400, 9, leaves(v, 7), 8, -6)
}

func TestRunOfWhatIsNoWord(t *testing.T) {
	for xt, code := range map[int]api.Throw{1: -23, -8: -9, 2048: -9, least: -9, most: -9, 1360: -14, 1072: -14, 1500: -23, 1504: -9} {
		v := busy(t)
		expectRun(t, fmt.Sprint("of ", xt), v, xt, 9, leaves(v, v.D...), 8, code)
		expectRun(t, fmt.Sprint("of ", xt), v, xt, 1, leaves(v, v.D...), 0, code)
		expectRun(t, fmt.Sprint("of ", xt), v, xt, 0, leaves(v, v.D...), 0, -256)
	}
}

// R and frames of the machine are gone from the beginning on, and behind it.
func TestRunIsWithoutRAndFrames(t *testing.T) {
	v := framed(busy(t))
	expectRun(t, "R>", v, place(t, "R>"), 9, leaves(v, v.D...), 8, -6)
	expectRun(t, "ABORT", v, place(t, "ABORT"), 9, leaves(v, v.D...), 8, -1)
	expectRun(t, "(caught)", v, place(t, "(caught)"), 9, leaves(v, v.D...), 8, -6)
	expectRun(t, "DUP", v, 216, 9, leaves(v, 11, -12, 13, 13), 7, api.OK)
	expectRun(t, ">R", v, place(t, ">R"), 9, leaves(v, 11, -12), 7, api.OK)
	expectRun(t, "no fuel", v, 216, 0, leaves(v, v.D...), 0, -256)
	expectRun(t, "fuel below 0", v, 216, -3, leaves(v, v.D...), 0, -256)
	expectRun(t, "(halt)", v, 96, 1, leaves(v, v.D...), 0, api.OK)
	// A word that ends with cells on R, or with a code, or for want of fuel, leaves none.
	a := laid(t, v, 1400, 256, ">R", ">R", "ABORT")
	expectRun(t, "ABORT behind two >R", a, 1400, 9, leaves(a, 11), 5, -1)
	expectRun(t, "two >R", a, 1400, 3, leaves(a, 11), 0, -256)
	b := laid(t, v, 1400, 256, "(lit)", 96, "CATCH")
	expectRun(t, "CATCH of (halt)", b, 1400, 9, leaves(b, v.D...), 5, api.OK)
	expectRun(t, "CATCH alone", b, 1400, 3, leaves(b, v.D...), 0, -256)
}

func TestRunOfCodeThatNeverEnds(t *testing.T) {
	v := program(t, s(1), "(branch)", 1408)
	for _, fuel := range []int{1, 2, 3, 100, 20000} {
		expectRun(t, "a branch to itself", v, 1400, fuel, leaves(v, 1), 0, -256)
	}
	w := program(t, s(0), "1+", "(branch)", 1408)
	for fuel, n := range map[int]int{1: 0, 2: 1, 3: 1, 4: 2, 5: 2, 1001: 500, 10000: 5000} {
		expectRun(t, "counting", w, 1400, fuel, leaves(w, n), 0, -256)
	}
	// It calls itself: R gets full.
	x := program(t, s(1), 1400)
	expectRun(t, "a call of itself", x, 1400, 1000, leaves(x, 1), 1000-25, -5)
	expectRun(t, "a call of itself", x, 1400, 24, leaves(x, 1), 0, -256)
	// A code that is caught, again and again, by the same code.
	y := program(t, nil, "(lit)", place(t, "ABORT"), "CATCH", "DROP", "(branch)", 1408)
	for i, d := range [][]int{nil, s(place(t, "ABORT")), nil, s(-1), nil} {
		expectRun(t, "codes without end", y, 1400, 1+5*400+i, leaves(y, d...), 0, -256)
	}
}

// P12.3, P12.4: words of many kinds, by what they leave, and the fuel that they take.

// goal is a program that ends: what it leaves on D, or its code, and the fuel that it takes.
type goal struct {
	name  string
	v     api.Vm
	d     []int
	takes int
	code  api.Throw
}

// loopGoals are loops of 0, 1 and many rounds, one in another, and such that are left.
func loopGoals(t *testing.T) []goal {
	count := func(d ...int) api.Vm { // how many rounds: l i -- n
		return program(t, d, "(lit)", 0, "-ROT", "(do)", "1+", "(loop)", 1440, "(exit)")
	}
	asked := func(d ...int) api.Vm { // likewise, but none where both are the same
		return program(t, d, "(lit)", 0, "-ROT", "(?do)", 1472, "1+", "(loop)", 1448, "(exit)")
	}
	steps := func(n int, d ...int) api.Vm { // each index
		return program(t, d, "(do)", "I", "(lit)", n, "(+loop)", 1416, "(exit)")
	}
	nested := program(t, s(0), "(lit)", 3, "(lit)", 1, "(do)", "(lit)", 12, "(lit)", 10, "(do)", "I", "J", "*", "+", "(loop)", 1488, "(loop)", 1448, "(exit)")
	left := program(t, s(9), "(lit)", 100, "(lit)", 0, "(do)", "I", "(lit)", 2, "=", "(0branch)", 1520, "UNLOOP", "(branch)", 1536, "(loop)", 1448, "(exit)")
	return []goal{
		{"one round", count(10, 9), s(1), 6 + 2, 0}, {"seven rounds", count(10, 3), s(7), 6 + 2*7, 0}, {"300 rounds", count(300, 0), s(300), 6 + 2*300, 0},
		{"no round of ?DO", asked(5, 5), s(0), 6, 0}, {"one round of ?DO", asked(1, 0), s(1), 6 + 2, 0}, {"seven rounds of ?DO", asked(10, 3), s(7), 6 + 2*7, 0}, {"rounds over the end of numbers", count(least+2, most-1), s(4), 6 + 2*4, 0},
		{"by 3", steps(3, 10, 0), s(0, 3, 6, 9), 4 + 3*4, 0}, {"by -2", steps(-2, 0, 6), s(6, 4, 2, 0), 4 + 3*4, 0}, {"by -1 from its end", steps(-1, 5, 5), s(5), 4 + 3, 0},
		{"one in another", nested, s(10 + 11 + 20 + 22), 6 + 2*(4+2*5), 0},
		{"one that is left", left, s(9), 6 + 2*5 + 6, 0},
	}
}

// catchGoals are words that are caught, and such that throw.
func catchGoals(t *testing.T) []goal {
	thrower := func(v api.Vm, n any) api.Vm {
		return laid(t, v, 1600, 256, "DROP", "(lit)", 8, ">R", "(lit)", n, "THROW", "(exit)")
	}
	outer := program(t, s(1, 2), "(lit)", 1600, "CATCH", "(exit)")
	twice := laid(t, program(t, s(1, 2), "(lit)", 1600, "CATCH", "(exit)"), 1600, 256, "(lit)", 7, "(lit)", 1700, "CATCH", "1+", "THROW", "(exit)")
	twice = laid(t, twice, 1704, 256, "2DROP", "(lit)", 41, "THROW")
	cells(&twice, 1600+8*4, 1704)
	return []goal{
		{"a word that throws", thrower(outer, 77), s(1, 77, 77), 3 + 6 + 2, 0},
		{"a word that throws -1", thrower(outer, -1), s(1, -1, -1), 3 + 6 + 2, 0},
		{"a word that ends with a code of its own", laid(t, outer, 1600, 256, "DROP", "DROP", "DROP", "(exit)"), s(0, 0, -4), 3 + 4 + 2, 0},
		{"a word that throws within a second one", twice, s(1, 41, 42), 3 + 4 + 4 + 2 + 2, 0},
		{"a word that throws nothing", laid(t, outer, 1600, 256, "+", "(lit)", 0, "THROW", "(exit)"), s(3, 0), 3 + 5 + 3, 0},
		{"a word that isn't caught", thrower(program(t, s(1, 2), 1600, "(exit)"), 77), s(1, 77), 1 + 6, 77},
		{"a primitive", program(t, s(4), "(lit)", place(t, "DUP"), "CATCH", "(exit)"), s(4, 4, 0), 7, 0},
		{"a primitive with a code", program(t, s(4, 0), "(lit)", place(t, "/"), "CATCH", "(exit)"), s(4, 0, -10), 6, 0},
		{"what is no word", program(t, s(4), "(lit)", 5, "CATCH", "(exit)"), s(4, -23), 6, 0},
		{"a code in what comes behind", laid(t, program(t, s(4), "(lit)", 1600, "CATCH", "ABORT"), 1600, 256, "(exit)"), s(4, 0), 7, -1},
		{"(halt) that is caught", program(t, s(4), "(lit)", place(t, "(halt)"), "CATCH", "ABORT"), s(4), 4, 0},
	}
}

// wordGoals are words that are done by EXECUTE, and such with a deed.
func wordGoals(t *testing.T) []goal {
	made := program(t, nil, "(lit)", 11, ",", 1600, "(exit)")
	made = laid(t, made, 1600, 256, "(does)", "@", "1+", "(exit)")
	made.Here, made.Last = 1384, 1368
	made = laid(t, made, 1368, 257, 0)
	done := laid(t, program(t, nil, 1368, 1368, "+", "(exit)"), 1368, 259, 1616, 33)
	done = laid(t, done, 1600, 256, "(does)", "@", "1+", "(exit)")
	states := laid(t, program(t, nil, 1504, "(lit)", 1520, "(lit)", 1, "SWAP", "SET-STATE", 1504, "(exit)"), 1504, 260, 0, 0, 2, 1600, 1632)
	states = laid(t, states, 1600, 256, "(lit)", 10, "(exit)", 256, "(lit)", 20, "(exit)")
	asked := []any{"(0branch)", 1440, "(lit)", 5, "SWAP", "(0branch)", 1496, "(lit)", 6, "(branch)", 1512, "(lit)", 7, "(exit)"}
	return []goal{
		{"by EXECUTE", program(t, s(4, 5), "(lit)", place(t, "*"), "EXECUTE", "(exit)"), s(20), 6, 0},
		{"a definition by EXECUTE", laid(t, program(t, s(4), "(lit)", 1600, "EXECUTE", "1+", "(exit)"), 1600, 256, "DUP", "(exit)"), s(4, 5), 9, 0},
		{"EXECUTE by EXECUTE", program(t, s(4, place(t, "DUP")), "(lit)", place(t, "EXECUTE"), "EXECUTE", "(exit)"), s(4, 4), 7, 0},
		{"EXECUTE of itself for want of cells", program(t, nil, "(lit)", place(t, "EXECUTE"), "EXECUTE", "(exit)"), nil, 4, -4},
		{"a deed that is given", made, nil, 7, 0}, {"a deed that is done", done, s(68), 1 + 2*4 + 3, 0}, {"states", states, s(10, 20), 1 + 4 + 4 + 4 + 2, 0},
		{"a variable, and a constant", laid(t, program(t, nil, 1600, 1640, "(exit)"), 1600, 257, 0, 0, 9, 9, 258, 0, 44), s(1616, 44), 5, 0},
		{"a text", program(t, nil, "(str)", 3, 0x434241, "TYPE", "(exit)"), nil, 5, 0},
		{"cells by way of R", program(t, s(1, 2, 3, 4), ">R", "2>R", "R@", "2R>", "R>", "(exit)"), s(1, 3, 2, 3, 4), 8, 0},
		{"yes, and no", program(t, s(0, -1), asked...), s(5, 7), 8, 0}, {"no, and yes", program(t, s(3, 1, 0), asked...), s(1, 6), 8, 0},
	}
}

func goals(t *testing.T) []goal { return slices.Concat(loopGoals(t), catchGoals(t), wordGoals(t)) }

func TestPrograms(t *testing.T) {
	for _, g := range goals(t) {
		v, left, code := Run(g.v, 1400, 5000)
		if !slices.Equal(v.D, g.d) || code != g.code || len(v.R)+len(v.F) != 0 || !vm.Right(v) {
			t.Errorf("%s: D %v, code %d, want %v, %d", g.name, v.D, code, g.d, g.code)
		}
		if 5000-left != g.takes {
			t.Errorf("%s takes %d, want %d", g.name, 5000-left, g.takes)
		}
	}
}

// byStep is Run, told by Begin and Step one by one, and how many steps it takes.
func byStep(t *testing.T, v api.Vm, xt, fuel int) (api.Vm, int, api.Throw, int) {
	t.Helper()
	r := Begin(v, xt, fuel)
	for steps := 0; ; steps++ {
		next, over, code := Step(r)
		if !vm.Right(next.Vm) {
			t.Fatal("the machine isn't right behind step", steps)
		}
		if over || code != api.OK {
			next.Vm.R, next.Vm.F = nil, nil
			if code != api.Fuel || next.Fuel != 0 {
				steps++
			}
			return next.Vm, next.Fuel, code, steps
		}
		if next.Fuel != r.Fuel-1 {
			t.Fatal("a step takes", r.Fuel-next.Fuel)
		}
		r = next
	}
}

// A run takes as much fuel as it takes steps; with more it does the same; with less it ends with Fuel.
func TestRunIsBeginAndStepOneByOne(t *testing.T) {
	for _, g := range goals(t) {
		full, left, code := Run(g.v, 1400, 5000)
		v, stepsLeft, stepsCode, steps := byStep(t, g.v, 1400, 5000)
		if part := machinesDiffer(full, v); part != "" || left != stepsLeft || code != stepsCode || 5000-left != steps {
			t.Errorf("%s: %s; %d, %d left, codes %d, %d, %d steps", g.name, part, left, stepsLeft, code, stepsCode, steps)
		}
		for _, more := range []int{0, 1, 7, 100000} {
			expectRun(t, g.name, g.v, 1400, steps+more, full, more, code)
		}
		for fuel := range steps {
			if fuel > 40 && fuel < steps-5 {
				continue
			}
			got, left, code := Run(g.v, 1400, fuel)
			v, _, stepsCode, taken := byStep(t, g.v, 1400, fuel)
			if part := machinesDiffer(got, v); part != "" || left != 0 || code != api.Fuel || stepsCode != api.Fuel || taken != fuel {
				t.Errorf("%s with fuel of %d: %s, %d left, codes %d, %d", g.name, fuel, part, left, code, stepsCode)
			}
		}
	}
}

// P12.3: what a word with a deed leaves in memory, and what can be undone of it.
func TestADeedThatIsGiven(t *testing.T) {
	for _, g := range wordGoals(t) {
		if g.name != "a deed that is given" {
			continue
		}
		want := leaves(g.v)
		stored(&want, 1384, 11)
		stored(&want, 1368, 259)
		stored(&want, 1376, 1616)
		want.Here = 1392
		expectRun(t, g.name, g.v, 1400, 100, want, 100-7, api.OK)
		v, left, code := Run(want, 1368, 10)
		if code != api.OK || !slices.Equal(v.D, s(12)) || left != 5 {
			t.Error("the word:", v.D, left, code)
		}
	}
}

// P12.4: what is caught is handed on with both stacks as deep as they were.
func TestWhatIsCaughtFindsBothStacksAsDeepAsTheyWere(t *testing.T) {
	for i, x := range []struct {
		thrower []any
		d       []int
	}{
		{[]any{256, "(lit)", 7, "THROW"}, s(1, 2, 3, 7, 4, 51, 50)},
		{[]any{256, "(lit)", 1, "(lit)", 2, "2DUP", "2>R", ">R", "ABORT"}, s(1, 2, 3, -1, 4, 51, 50)},
		{[]any{256, "2DROP", "ABORT"}, s(1, 0, 0, -1, 4, 51, 50)},
		{[]any{256, "2DROP", "DROP", "(lit)", 8, "DUP", ">R", "DROP", "DROP"}, s(0, 0, 0, -4, 4, 51, 50)},
		{[]any{256, "R>", "R>", "2DROP", "ABORT"}, s(1, 2, 3, -1, 4, 0, 50)},
		{[]any{256, "R>", "R>", "R>", "DROP", "2DROP", "(lit)", 60, ">R", "ABORT"}, s(1, 2, 3, -1, 4, 0, 60)},
		{[]any{256, "(exit)"}, s(1, 2, 3, 0, 4, 51, 50)},
	} {
		v := program(t, s(1, 2, 3), "(lit)", 50, ">R", "(lit)", 51, ">R", "(lit)", 1600, "CATCH", "DEPTH", "R>", "R>", "(exit)")
		v = laid(t, v, 1600, x.thrower...)
		got, _, code := Run(v, 1400, 100)
		if code != api.OK || !slices.Equal(got.D, x.d) {
			t.Errorf("case %d: %v, %d, want %v", i, got.D, code, x.d)
		}
	}
}

// Sixty-four CATCHes may be in one another, and no more: the last one's code is handed to the one around it.
func TestCatchesInOneAnother(t *testing.T) {
	v := program(t, nil, "(lit)", 1400, "CATCH", "(exit)")
	v.Conf.Ret, v.Conf.Data = 256, 256
	got, left, code := Run(v, 1400, 1000)
	// 64 go well; the 65th has ROver, which the 64th one catches; each one around it ends well, and leaves 0.
	want := make([]int, 64)
	want[0] = -5
	if code != api.OK || !slices.Equal(got.D, want) || 1000-left != 64*3+3+64+1+63 {
		t.Error(got.D, 1000-left, code)
	}
}
