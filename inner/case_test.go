package inner

import (
	"fmt"
	"slices"
	"testing"

	"detent/api"
	"detent/vm"
)

// given is what a word should do: of the cells that it takes of both stacks, the top one last, it leaves those; or it has the code, and nothing is changed by it. Ahead of it a run is turned by on; what else is changed by it is told by then.
type given struct {
	// The word: its name, or, without one, the place of its code field.
	name string
	xt   int
	// Where the next cell is: 1408, if nothing is told.
	ip         int
	d, r       []int
	dOut, rOut []int
	code       api.Throw
	over       bool
	// Too few cells on R are told behind all else.
	late bool
	on   func(*api.Run)
	then func(*api.Run)
}

// s is a stack.
func s(n ...int) []int { return n }

// field is where a case's word stands.
func (g given) field(t *testing.T) int {
	t.Helper()
	if g.name == "" {
		return g.xt
	}
	return place(t, g.name)
}

// next is where a case's next cell is.
func (g given) next() int {
	if g.ip == 0 {
		return 1408
	}
	return g.ip
}

// ways are how a word may come to be done: by W, or by the cell ahead of the next one, if that may stand there. A W that isn't to be done is as it was behind the word.
func (g given) ways(t *testing.T, v api.Vm) []api.Run {
	t.Helper()
	byDo := api.Run{Vm: deep(v), Ip: g.next(), W: g.field(t), Do: true, Fuel: 5}
	at := g.next() - 8
	if at < 0 || at > 2040 || at%8 != 0 {
		return []api.Run{byDo}
	}
	byCell := api.Run{Vm: deep(v), Ip: at, W: 77, Fuel: 5}
	cells(&byCell.Vm, at, g.field(t))
	return []api.Run{byDo, byCell}
}

// ahead is a run ahead of a case's word, with other cells beneath those that it takes.
func (g given) ahead(r api.Run, belowD, belowR []int) api.Run {
	r = deepRun(r)
	if g.on != nil {
		g.on(&r)
	}
	r.Vm.D, r.Vm.R = slices.Concat(belowD, g.d), slices.Concat(belowR, g.r)
	return r
}

// behind is what a run should be behind a case's word, and the code that is answered, if the word has that code.
func (g given) behind(r api.Run, code api.Throw) (api.Run, bool, api.Throw) {
	r = deepRun(r)
	r.Fuel--
	r.Ip = g.next()
	if r.Do {
		r.W, r.Do = 0, false
	}
	if code != api.OK {
		r, code = handedByHand(r, code)
		return r, false, code
	}
	r.Vm.D = slices.Concat(r.Vm.D[:len(r.Vm.D)-len(g.d)], g.dOut)
	r.Vm.R = slices.Concat(r.Vm.R[:len(r.Vm.R)-len(g.r)], g.rOut)
	if g.then != nil {
		g.then(&r)
	}
	return r, g.over, api.OK
}

// handedByHand is what comes of a code, told here once more.
func handedByHand(r api.Run, code api.Throw) (api.Run, api.Throw) {
	r.W, r.Do = 0, false
	n := len(r.Vm.F)
	if n == 0 {
		return r, code
	}
	f := r.Vm.F[n-1]
	cut := func(l []int, many int) []int {
		var out []int
		for i := range many {
			if i < len(l) {
				out = append(out, l[i])
			} else {
				out = append(out, 0)
			}
		}
		return out
	}
	r.Vm.F = r.Vm.F[:n-1]
	r.Vm.D = append(cut(r.Vm.D, min(f.D, r.Vm.Conf.Data-1)), int(code))
	r.Vm.R = cut(r.Vm.R, min(f.R, r.Vm.Conf.Ret))
	r.Ip = f.Ip
	return r, api.OK
}

// expect holds what Step answered against what it should.
func expect(t *testing.T, what string, got api.Run, over bool, code api.Throw, want api.Run, wantOver bool, wantCode api.Throw) {
	t.Helper()
	if code != wantCode || over != wantOver {
		t.Errorf("%s: code %d, over %v, want %d, %v", what, code, over, wantCode, wantOver)
	}
	if part := differs(got, want); part != "" {
		t.Errorf("%s: %s", what, part)
	}
}

// check holds a step against what it should be, and asks that it changes nothing that it was given, and that the machine stays right.
func check(t *testing.T, what string, r api.Run, want api.Run, wantOver bool, wantCode api.Throw) {
	t.Helper()
	if !vm.Right(r.Vm) {
		t.Fatalf("%s: the machine isn't right ahead of it", what)
	}
	for _, r := range []api.Run{r, roomy(r)} {
		kept := whole(r)
		got, over, code := Step(r)
		expect(t, what, got, over, code, want, wantOver, wantCode)
		if part := differs(whole(r), kept); part != "" {
			t.Errorf("%s changes what it was given: %s", what, part)
		}
		if !vm.Right(got.Vm) {
			t.Errorf("%s: the machine isn't right behind it", what)
		}
	}
}

// checkAll holds words against cases: with just the cells that they take, with more beneath, with fewer, with full stacks, and with room for just what they leave; without frames, and with some.
func checkAll(t *testing.T, cases []given) {
	t.Helper()
	for i, g := range cases {
		for _, v := range []api.Vm{busy(t), framed(busy(t))} {
			for k, r := range g.ways(t, v) {
				what := fmt.Sprintf("case %d, %s %d of %v, %v, way %d, %d frames", i, g.name, g.xt, g.d, g.r, k, len(v.F))
				checkBeneath(t, what, g, r)
				checkFewer(t, what, g, r)
				checkFull(t, what, g, r)
			}
		}
	}
}

func checkBeneath(t *testing.T, what string, g given, r api.Run) {
	t.Helper()
	some := [][]int{nil, {91}, {-5, 0, 77, 1 << 40, least, most}}
	for _, belowD := range some {
		for _, belowR := range some {
			a := g.ahead(r, belowD, belowR)
			want, over, code := g.behind(a, g.code)
			check(t, fmt.Sprint(what, " above ", belowD, belowR), a, want, over, code)
		}
	}
}

// The cells that are left are the same on top, so that each other code is still to be had.
func checkFewer(t *testing.T, what string, g given, r api.Run) {
	t.Helper()
	for k := range len(g.d) + 1 {
		for n := range len(g.r) + 1 {
			code := g.code
			switch {
			case k > 0:
				code = -4
			case n == 0:
				continue
			case !g.late || g.code == api.OK:
				code = -6
			}
			a := g.ahead(r, nil, nil)
			a.Vm.D, a.Vm.R = g.d[k:], g.r[n:]
			want, over, code := g.behind(a, code)
			check(t, fmt.Sprint(what, " without ", k, " and ", n), a, want, over, code)
		}
	}
}

// Over comes behind all else but ROver, that comes last.
func checkFull(t *testing.T, what string, g given, r api.Run) {
	t.Helper()
	for _, below := range [][]int{nil, {91}} {
		dFrom, rFrom := max(1, len(below)+len(g.d)), max(1, len(below)+len(g.r))
		for data := dFrom; data <= dFrom+2; data++ {
			for ret := rFrom; ret <= rFrom+2; ret++ {
				a := g.ahead(r, below, below)
				a.Vm.Conf.Data, a.Vm.Conf.Ret = data, ret
				code := g.code
				if code == api.OK && len(below)+len(g.dOut) > data {
					code = -3
				} else if code == api.OK && len(below)+len(g.rOut) > ret {
					code = -5
				}
				want, over, code := g.behind(a, code)
				check(t, fmt.Sprint(what, " above ", below, " with room for ", data, " and ", ret), a, want, over, code)
			}
		}
	}
}

// goTo tells that a run goes on at a place.
func goTo(ip int) func(*api.Run) { return func(r *api.Run) { r.Ip = ip } }

// doNext tells that a word is done next.
func doNext(xt int) func(*api.Run) { return func(r *api.Run) { r.W, r.Do = xt, true } }

// lay turns memory: cells, each behind its place.
func lay(pairs ...int) func(*api.Run) { return func(r *api.Run) { cells(&r.Vm, pairs...) } }

// all is one behind the other.
func all(turns ...func(*api.Run)) func(*api.Run) {
	return func(r *api.Run) {
		for _, turn := range turns {
			turn(r)
		}
	}
}
