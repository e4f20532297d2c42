package comp

import (
	"fmt"
	"math/rand"
	"reflect"
	"slices"
	"testing"

	"detent/api"
	"detent/cflow"
	"detent/dict"
	"detent/vm"
)

// named is an act, and what it is called.
type named struct {
	name string
	do   act
}

// acts are all calls of this package that make a Forth.
func acts() []named {
	return []named{
		{"Begin", begin("x", false, 0)}, {"Begin of a handler", begin("h", true, 5)}, {"Begin of no name", begin("", false, 0)},
		{"End", End}, {"Undo", undo}, {"Create", create("c")}, {"Variable", variable("v")}, {"Constant", constant("n", -7)},
		{"Machine", machine("m", 3)}, {"Machine of none", machine("m", 0)}, {"Immediate", Immediate},
		{"Forget", forget("c")}, {"Forget of a", forget("a")}, {"Forget of DUP", forget("DUP")},
	}
}

// willing are Forths of which each act makes another one, of one or another.
func willing(t *testing.T) []api.Forth {
	t.Helper()
	return []api.Forth{fresh(t), endedBy(busy(t, 1441), 1400, 0), making(t, 1440), answering(t, 1440), bracketed(answering(t, 1440)), endedBy(answering(t, 1440), 1432, 2)}
}

// answer is what an act answers.
type answer struct {
	f    api.Forth
	code api.Throw
}

func of(a named, f api.Forth) answer {
	got, code := a.do(f)
	return answer{got, code}
}

// R3: of each two acts, the second one is done with what the first one was given, and with what it answered: what both were given, and what the first one answered, stays.
func TestNoCallChangesWhatAnEarlierOneAnswered(t *testing.T) {
	went := map[string]bool{}
	for i, f := range willing(t) {
		for _, f := range []api.Forth{f, roomy(f)} {
			kept := whole(f)
			for _, first := range acts() {
				got := of(first, f)
				then := deep(got.f)
				went[first.name] = went[first.name] || got.code == api.OK
				for _, second := range acts() {
					other := of(second, f)
					otherThen := deep(other.f)
					last := of(second, got.f)
					of(first, other.f)
					of(first, last.f)
					if differs(got.f, then) != "" || differs(other.f, otherThen) != "" {
						t.Errorf("Forth %d, %s, %s: what was answered is changed", i, first.name, second.name)
					}
				}
			}
			if !reflect.DeepEqual(whole(f), kept) {
				t.Errorf("Forth %d is changed", i)
			}
		}
	}
	for _, a := range acts() {
		if wants := a.name != "Begin of no name" && a.name != "Machine of none" && a.name != "Forget of DUP" && a.name != "Forget"; went[a.name] != wants {
			t.Error(a.name, "of some Forth:", went[a.name])
		}
	}
}

// Two handlers, and two words, that come of one Forth.
func TestTwoForthsThatComeOfOne(t *testing.T) {
	base := roomy(withHands(busy(t, 1440), 3))
	ends := map[string]api.Forth{}
	for _, name := range []string{"x", "y"} {
		f, code := Begin(base, name, true, len(ends))
		if code != api.OK {
			t.Fatal(code)
		}
		if ends[name], code = End(f); code != api.OK {
			t.Fatal(code)
		}
	}
	for name, fuel := range map[string]int{"x": 0, "y": 1} {
		f := ends[name]
		if word, at, _ := dict.Find(f.Vm.Dict, name); word.Xt != 1440 || at != busyWords || len(f.Vm.Hand) != 4 || f.Vm.Hand[3] != (api.Hand{Xt: 1440, Fuel: fuel}) {
			t.Error(name, word, at, f.Vm.Hand)
		}
	}
	a, _ := Create(ends["x"], "a")
	b, _ := Variable(ends["x"], "b")
	if a.Vm.Dict[busyWords+1].Name != "a" || b.Vm.Dict[busyWords+1].Name != "b" || a.Vm.Here != 1472 || b.Vm.Here != 1480 {
		t.Error(a.Vm.Dict[busyWords:], b.Vm.Dict[busyWords:])
	}
}

// R4: what a call answers hangs on its arguments alone.
func TestWhatACallAnswersHangsOnItsArgumentsAlone(t *testing.T) {
	for i, f := range willing(t) {
		for _, a := range acts() {
			want := of(a, f)
			for _, got := range []answer{of(a, f), of(a, deep(f)), of(a, roomy(f))} {
				if got.code != want.code || differs(got.f, want.f) != "" {
					t.Errorf("Forth %d, %s, once more: %d, %d: %s", i, a.name, got.code, want.code, differs(got.f, want.f))
				}
			}
		}
	}
}

// someName is a name, now and then one that may not be.
func someName(r *rand.Rand) string {
	return []string{"x", "y", "X", "dup", "z9", "", "a b", "longer-than-thirty-one-bytes-it-is"}[min(r.Intn(20), r.Intn(8))]
}

// someAct is an act of any kind, now and then one that lays, or takes back, what words and lines would.
func someAct(r *rand.Rand) named {
	name := someName(r)
	switch r.Intn(14) {
	case 0, 1, 2:
		return named{"Begin", begin(name, r.Intn(2) == 0, r.Intn(9)-1)}
	case 3, 4:
		return named{"End", End}
	case 5:
		return named{"Undo", undo}
	case 6:
		return named{"Create", create(name)}
	case 7:
		return named{"Variable", variable(name)}
	case 8:
		return named{"Constant", constant(name, r.Intn(99)-50)}
	case 9:
		return named{"Machine", machine(name, r.Intn(12)-1)}
	case 10:
		return named{"Immediate", Immediate}
	case 11:
		return named{"Forget", forget(name)}
	case 12:
		return named{"a bracket", func(f api.Forth) (api.Forth, api.Throw) { return bracket(f, []string{"IF", "THEN", "THEN"}[r.Intn(3)]) }}
	}
	return named{"an end that is moved", func(f api.Forth) (api.Forth, api.Throw) { return moved(f, r.Intn(17)-6), api.OK }}
}

// bracket is a Forth behind a bracket of the definition that is made.
func bracket(f api.Forth, name string) (api.Forth, api.Throw) {
	if !isMade(f) {
		return f, api.OnlyComp
	}
	v, open, code := cflow.Bracket(f.Vm, f.Comp.Cf, name)
	f.Vm, f.Comp.Cf = v, open
	return f, code
}

// moved is a Forth whose end is so many bytes on, if it may be there.
func moved(f api.Forth, n int) api.Forth {
	if here := f.Vm.Here + n; here >= 1368 && here <= len(f.Vm.Mem.B) {
		f.Vm.Here = here
	}
	return f
}

// P14.7: act by act Forths stay right; with a code nothing is changed; words that are not added, nor taken, stay.
func TestActByActForthsStayRight(t *testing.T) {
	r := rand.New(rand.NewSource(14))
	codes := map[api.Throw]int{}
	for range 60 {
		f := busy(t, 1368+r.Intn(300))
		f.Vm.Conf.Words = 200
		f.Vm.Hand = manyOf(api.Hand{Xt: 1368}, r.Intn(2)*63)
		for range 60 {
			a := someAct(r)
			next, code := a.do(f)
			codes[code]++
			if !Right(next) {
				t.Fatal("behind", a.name, "the Forth isn't right")
			}
			if part := differs(next, f); code != api.OK && part != "" {
				t.Fatalf("%s: %d, and %s", a.name, code, part)
			}
			keeps(t, a.name, f, next)
			f = next
			f.Vm.Mem.Old = nil
		}
	}
	for _, code := range []api.Throw{api.OK, api.Nesting, api.OnlyComp, api.Control, api.Space, api.Align, api.NoWord, api.BadName, api.BadNumber, api.NoName, api.LongName} {
		if codes[code] < 5 {
			t.Error("of code", code, "only", codes[code])
		}
	}
	if len(codes) != 11 || codes[api.OK] < 1000 {
		t.Error(codes)
	}
}

// keeps asks that an act changed no part that none of them names, and no word but the last of the old ones.
func keeps(t *testing.T, what string, ahead, behind api.Forth) {
	t.Helper()
	same := behind
	same.Comp, same.Vm.Mem, same.Vm.Here, same.Vm.Last, same.Vm.Dict, same.Vm.Hand = ahead.Comp, ahead.Vm.Mem, ahead.Vm.Here, ahead.Vm.Last, ahead.Vm.Dict, ahead.Vm.Hand
	if part := differs(same, ahead); part != "" {
		t.Fatal(what, "changes", part)
	}
	words := min(len(ahead.Vm.Dict)-1, len(behind.Vm.Dict))
	if what == "End" {
		words = min(words, ahead.Comp.Dict)
	}
	if !slices.Equal(ahead.Vm.Dict[:words], behind.Vm.Dict[:words]) {
		t.Fatal(what, "changes words")
	}
	if many := len(ahead.Vm.Hand); len(behind.Vm.Hand) < many || !slices.Equal(ahead.Vm.Hand, behind.Vm.Hand[:many]) {
		t.Fatal(what, "changes handlers")
	}
}

// P14.7: what is begun and ended is found, up to another one of that name; what is begun and undone isn't.
func TestWhatIsEndedIsFound(t *testing.T) {
	f := busy(t, 1441)
	for i, name := range []string{"x", "DUP", "two", "hid", "y", "X", "(exit)"} {
		elder, elderAt, was := dict.Find(f.Vm.Dict, name)
		made, code := Begin(f, name, i%2 == 0, i)
		if code != api.OK {
			t.Fatal(code)
		}
		// While it is made it isn't found.
		for what, f := range map[string]api.Forth{"begun": made, "undone": Undo(made)} {
			if word, at, known := dict.Find(f.Vm.Dict, name); word != elder || at != elderAt || known != was {
				t.Error(name, what, word, at, known)
			}
		}
		f, code = End(made)
		if code != api.OK {
			t.Fatal(code)
		}
		word, at, known := dict.Find(f.Vm.Dict, name)
		if want := (api.Word{Name: name, Xt: made.Comp.Xt}); word != want || at != made.Comp.Dict || !known {
			t.Error(name, "ended:", word, at, known)
		}
		if kind, code := vm.Kind(f.Vm, word.Xt); kind != api.DoCol || code != api.OK {
			t.Error(fmt.Sprint(name, ": kind ", kind, ", ", code))
		}
	}
}
