package inner

import (
	"fmt"
	"math/rand"
	"testing"

	"detent/api"
	"detent/vm"
)

// ready are words, each by the place of its code field, with the cells on D on which it goes well on a willing run, or, of ABORT, has its code.
func ready(t *testing.T) map[int][]int {
	t.Helper()
	all := map[int][]int{1504: nil, 1512: nil, 1536: nil, 1568: nil, 1600: nil}
	for name, d := range map[string][]int{
		"(exit)": nil, "(lit)": nil, "(branch)": nil, "(0branch)": s(0), "(do)": s(9, 8), "(?do)": s(9, 8), "(loop)": nil, "(+loop)": s(1), "(halt)": nil, "(caught)": nil, "(does)": nil, "(str)": nil,
		"EXECUTE": s(216), "CATCH": s(216), "THROW": s(0), "I": nil, "J": nil, "UNLOOP": nil, ">R": s(5), "R>": nil, "R@": nil, "2>R": s(5, 6), "2R>": nil,
		"DUP": s(5), "DROP": s(5), "+": s(5, 6), "!": s(5, 1640), "C!": s(5, 1640), ",": s(5), "EMIT": s(65), ".": s(5), "<#": nil, "POST": s(5, 1, 2), "AFTER": s(5, 1, 2, 3), "ABORT": s(5),
	} {
		all[place(t, name)] = d
	}
	return all
}

// willing is a run on which each of these words goes well: with a word of each kind, frames, and rows with room behind their ends.
func willing(t *testing.T) api.Run {
	t.Helper()
	v := framed(busy(t))
	v.R, v.Last = s(1, 2, 3, 10, 4), 1512
	cells(&v, 1408, 0, 1504, 256, 1512, 257, 1520, 0, 1536, 258, 1552, 7, 1568, 259, 1576, 1400, 1600, 260, 1616, 0, 1624, 1, 1632, 216)
	return roomy(api.Run{Vm: v, Ip: 1408, Fuel: 9})
}

// doing is a run that does a word next, with these cells on D; nil: those that are there.
func doing(r api.Run, xt int, d []int) api.Run {
	r.W, r.Do, r.Fuel = xt, true, 9
	if d != nil {
		r.Vm.D = d
	}
	return r
}

// R3: of each two words, the second one is done on the same run as the first one, and on what that one answered: what both were given, and what the first one answered, stays.
func TestNoCallChangesWhatAnEarlierOneAnswered(t *testing.T) {
	words := ready(t)
	abort, halt := place(t, "ABORT"), place(t, "(halt)")
	for first, d := range words {
		a := roomy(doing(willing(t), first, d))
		x, over, code := Step(a)
		if code != api.OK || over != (first == halt) || (len(x.Vm.F) == 1) != (first == abort || first == place(t, "(caught)")) {
			t.Fatalf("%d of %v: %d", first, a.Vm.D, code)
		}
		kept, answered := whole(a), whole(x)
		for second, d := range words {
			for _, b := range []api.Run{doing(a, second, nil), doing(a, second, d), doing(x, second, nil), doing(x, second, d)} {
				y, _, _ := Step(b)
				Step(doing(y, first, nil))
				Step(doing(y, abort, nil))
				Run(b.Vm, second, 3)
			}
			if part := differs(whole(a), kept); part != "" {
				t.Fatalf("%d, %d change what they were given: %s", first, second, part)
			}
			if part := differs(whole(x), answered); part != "" {
				t.Fatalf("%d changes what %d answered: %s", second, first, part)
			}
		}
	}
}

// Two words on the same run: each has its own answer.
func TestTwoWordsOnOneRun(t *testing.T) {
	r := willing(t)
	r.Vm.F = r.Vm.F[:1:2]
	lits := func(n int, name string) api.Run {
		a := doing(r, place(t, name), s(7, n))
		x, _, code := Step(a)
		if code != api.OK {
			t.Fatal(name, code)
		}
		return x
	}
	a, b := lits(1, "CATCH"), lits(2, "CATCH")
	if len(a.Vm.F) != 2 || a.W != 1 || b.W != 2 || a.Vm.F[1] != (api.Frame{D: 1, R: 5, Ip: 1408}) {
		t.Error(a.Vm.F, a.W, b.W)
	}
	a.Vm.R = a.Vm.R[:3]
	c, _, _ := Step(doing(a, place(t, "CATCH"), s(5)))
	d, _, _ := Step(doing(a, place(t, "CATCH"), s(4, 5)))
	if c.Vm.F[2] != (api.Frame{D: 0, R: 3, Ip: 24}) || d.Vm.F[2] != (api.Frame{D: 1, R: 3, Ip: 24}) {
		t.Error(c.Vm.F, d.Vm.F)
	}
	e, f := lits(11, ">R"), lits(12, ">R")
	if e.Vm.R[5] != 11 || f.Vm.R[5] != 12 {
		t.Error(e.Vm.R, f.Vm.R)
	}
}

// R4: what a call answers hangs on its arguments alone.
func TestWhatACallAnswersHangsOnItsArgumentsAlone(t *testing.T) {
	for xt, d := range ready(t) {
		r := doing(willing(t), xt, d)
		x, over, code := Step(r)
		for _, other := range []api.Run{r, deepRun(r), roomy(r)} {
			got, gotOver, gotCode := Step(other)
			expect(t, fmt.Sprint(xt, " once more"), got, gotOver, gotCode, x, over, code)
		}
	}
}

// someCell is a cell of which threaded code makes something: a word, a place, a number, a code field.
func someCell(r *rand.Rand) int {
	switch r.Intn(8) {
	case 0:
		return 32 + 8*r.Intn(23)
	case 1, 2, 3:
		return 32 + 8*r.Intn(167)
	case 4:
		return 1368 + 8*r.Intn(85)
	case 5:
		return 256 + r.Intn(5)
	case 6:
		return []int{0, 1, -1, 2, 3, 8, 24, least, most, 1401, 4096, 37}[r.Intn(12)]
	}
	return r.Intn(10)
}

// someRun is a run of a right machine, in all of whose cells that aren't a new one's something stands at random.
func someRun(t *testing.T, r *rand.Rand) api.Run {
	t.Helper()
	v := busy(t)
	v.Conf.Data, v.Conf.Ret = 1+r.Intn(12), 1+r.Intn(12)
	for at := 1368; at < 2048; at += 8 {
		cells(&v, at, someCell(r))
	}
	v.D, v.R = make([]int, r.Intn(v.Conf.Data+1)), make([]int, r.Intn(v.Conf.Ret+1))
	for _, l := range [][]int{v.D, v.R} {
		for i := range l {
			l[i] = someCell(r)
		}
	}
	for range r.Intn(4) {
		v.F = append(v.F, api.Frame{D: r.Intn(257), R: r.Intn(15), Ip: 1368 + 8*r.Intn(85)})
	}
	v.Last = someCell(r)
	return api.Run{Vm: v, Ip: 1368 + 8*r.Intn(85), W: someCell(r), Do: r.Intn(2) == 0, Fuel: 60}
}

// P12.4: machines stay right, step by step; each step takes one of fuel; with a code nothing but what the chapter names is other than it was.
func TestMachinesStayRightStepByStep(t *testing.T) {
	r := rand.New(rand.NewSource(12))
	codes, caught := map[api.Throw]int{}, 0
	for i := range 2500 {
		a := someRun(t, r)
		if !vm.Right(a.Vm) {
			t.Fatal("the machine isn't right ahead of it")
		}
		for a.Fuel > 0 {
			kept := whole(a)
			x, over, code := Step(a)
			if part := differs(whole(a), kept); part != "" {
				t.Fatalf("run %d: Step changes what it was given: %s", i, part)
			}
			if !vm.Right(x.Vm) || x.Fuel != a.Fuel-1 {
				t.Fatalf("run %d: the machine isn't right behind a step, or %d of fuel is %d", i, a.Fuel, x.Fuel)
			}
			if len(x.Vm.F) < len(a.Vm.F) {
				caught++
			}
			codes[code]++
			if code != api.OK {
				want := deepRun(a)
				want.Ip, want.W, want.Do, want.Fuel = x.Ip, 0, false, a.Fuel-1
				expect(t, fmt.Sprint("run ", i), x, over, code, want, false, code)
				if x.Ip != a.Ip && (a.Do || x.Ip != a.Ip+8) || len(a.Vm.F) > 0 {
					t.Fatalf("run %d: code %d, Ip %d, %d", i, code, a.Ip, x.Ip)
				}
			}
			if over || code != api.OK {
				break
			}
			a = x
		}
	}
	for _, code := range []api.Throw{0, -3, -4, -5, -6, -9, -14, -23, -24, -31} {
		if codes[code] == 0 {
			t.Errorf("code %d never came", code)
		}
	}
	if caught < 100 || codes[0] < 5000 {
		t.Error(caught, codes)
	}
}
