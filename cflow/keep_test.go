package cflow

import (
	"fmt"
	"math/rand"
	"reflect"
	"testing"

	"detent/api"
	"detent/vm"
)

// call is a call of this package that makes a machine, and open brackets, of others.
type call struct {
	name string
	do   func(v api.Vm, l []api.Cf) (api.Vm, []api.Cf, api.Throw)
}

// calls are all of them.
func calls() []call {
	machine := func(name string, do func(api.Vm) (api.Vm, api.Throw)) call {
		return call{name, func(v api.Vm, l []api.Cf) (api.Vm, []api.Cf, api.Throw) {
			v, code := do(v)
			return v, l, code
		}}
	}
	out := []call{
		machine("Lay", func(v api.Vm) (api.Vm, api.Throw) { return Lay(v, -7) }),
		machine("Lit", func(v api.Vm) (api.Vm, api.Throw) { return Lit(v, 8) }),
		machine("Str", func(v api.Vm) (api.Vm, api.Throw) { return Str(v, "abcde") }),
	}
	for _, name := range append(Names(), "EXIT") {
		out = append(out, call{"Bracket of " + name, func(v api.Vm, l []api.Cf) (api.Vm, []api.Cf, api.Throw) { return Bracket(v, l, name) }})
	}
	return out
}

// willing are brackets in which each name finds what it asks for, one row or another.
func willing() [][]api.Cf {
	return [][]api.Cf{
		l(loop(1376, 1408), orig(1400)), l(loop(1376, 1408), orig(1400), dest(1384)), l(orig(1400), loop(1376), loop(1392, 1408, 1416)), nil,
	}
}

// answer is what a call answers.
type answer struct {
	v    api.Vm
	l    []api.Cf
	code api.Throw
}

func (c call) of(v api.Vm, l []api.Cf) answer {
	got, open, code := c.do(v, l)
	return answer{got, open, code}
}

// full is an answer, each row up to the end of its room.
func (a answer) full() answer { return answer{whole(a.v), whole(a.l), a.code} }

// R3: of each two calls, the second one is done with what the first one was given, and with what it answered: what both were given, and what the first one answered, stays.
func TestNoCallChangesWhatAnEarlierOneAnswered(t *testing.T) {
	for _, open := range willing() {
		for _, given := range []answer{{v: busy(t, 1440), l: open}, {v: roomy(busy(t, 1440)), l: roomyOpen(open)}} {
			kept := given.full()
			for _, first := range calls() {
				got := first.of(given.v, given.l)
				then := answer{deep(got.v), deep(got.l), got.code}
				for _, second := range calls() {
					second.of(given.v, given.l)
					second.of(got.v, got.l)
					if differs(got.v, then.v) != "" || openDiffer(got.l, then.l) {
						t.Errorf("%s changes what %s answered of %v: %v, %v", second.name, first.name, open, got.l, then.l)
					}
				}
			}
			if !reflect.DeepEqual(given.full(), kept) {
				t.Errorf("what was given is changed: %v", given.l)
			}
		}
	}
}

// Who writes into what was answered doesn't change the brackets that were given, nor the other way round.
func TestBracketsThatAreAnsweredAreMemoryOfTheirOwn(t *testing.T) {
	for _, name := range Names() {
		for _, open := range willing() {
			open := roomyOpen(open)
			kept := whole(open)
			_, got, code := Bracket(busy(t, 1440), open, name)
			if code != api.OK {
				continue
			}
			then := deep(got)
			for i := range got {
				got[i].At++
				clear(got[i].Leaves)
			}
			if !reflect.DeepEqual(whole(open), kept) {
				t.Errorf("%s of %v: what is written into the answer is in what was given", name, open)
			}
			_, got, _ = Bracket(busy(t, 1440), open, name)
			for i := range open {
				open[i].At++
				clear(open[i].Leaves)
			}
			if openDiffer(got, then) {
				t.Errorf("%s: what is written into what was given is in the answer: %v", name, got)
			}
		}
	}
}

// R4: what a call answers hangs on its arguments alone.
func TestWhatACallAnswersHangsOnItsArgumentsAlone(t *testing.T) {
	for _, open := range willing() {
		for _, c := range calls() {
			v := busy(t, 1440)
			want := c.of(v, open)
			for _, got := range []answer{c.of(v, open), c.of(deep(v), deep(open)), c.of(roomy(v), roomyOpen(open))} {
				if got.code != want.code || differs(got.v, want.v) != "" || openDiffer(got.l, want.l) {
					t.Errorf("%s of %v, once more: %d, %d, %v, %v", c.name, open, got.code, want.code, got.l, want.l)
				}
			}
		}
	}
}

// P13.4: call by call machines, and brackets, stay right; nothing but memory and Here is changed; with a code nothing is.
func TestCallByCallAllStaysRight(t *testing.T) {
	r := rand.New(rand.NewSource(14))
	all := calls()
	codes, longest := map[api.Throw]int{}, 0
	for range 300 {
		now := answer{v: busy(t, 1368+8*r.Intn(60)), l: willing()[r.Intn(4)]}
		ahead := deep(now.v)
		for range 40 {
			c := all[r.Intn(len(all))]
			if r.Intn(3) == 0 {
				// So that rows grow long.
				c = all[3]
			}
			next := c.of(now.v, now.l)
			codes[next.code]++
			if !vm.Right(next.v) || !Right(next.l) {
				t.Fatalf("%s of %v: what it answers isn't right", c.name, now.l)
			}
			if next.code != api.OK && (differs(next.v, now.v) != "" || openDiffer(next.l, now.l)) {
				t.Fatalf("%s of %v: %d, and something is changed", c.name, now.l, next.code)
			}
			was := next.v
			was.Mem, was.Here = ahead.Mem, ahead.Here
			if part := differs(was, ahead); part != "" {
				t.Fatalf("%s changes %s", c.name, part)
			}
			now = next
			longest = max(longest, len(now.l))
		}
	}
	if codes[api.OK] < 3000 || codes[api.Control] < 1000 || codes[api.Space] < 50 || len(codes) != 3 || longest < 15 {
		t.Error(codes, longest)
	}
}

// Here rises by what is laid, and by nothing else; what stood ahead of it stays, but for cells that are to tell where.
func TestWhatWasLaidStays(t *testing.T) {
	for _, open := range willing() {
		for _, c := range calls() {
			v := busy(t, 1440)
			got := c.of(v, open)
			cells := map[int]bool{}
			for _, b := range open {
				for _, at := range append([]int{b.At}, b.Leaves...) {
					cells[at] = true
				}
			}
			for at := range v.Mem.B {
				laid := at >= 1440 && at < got.v.Here
				if v.Mem.B[at] != got.v.Mem.B[at] && !laid && !cells[at/8*8] {
					t.Fatal(fmt.Sprint(c.name, " of ", open, " changes the byte at ", at))
				}
			}
		}
	}
}
