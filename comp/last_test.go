package comp

import (
	"fmt"
	"testing"

	"detent/api"
)

// P14.6

// immediate is a Forth whose last word has the flag.
func immediate(f api.Forth) api.Forth {
	return with(f, func(f *api.Forth) { f.Vm.Dict[len(f.Vm.Dict)-1].Flags |= 1 })
}

// endedBy is a Forth whose last word has an Xt, and flags.
func endedBy(f api.Forth, xt, flags int) api.Forth {
	return with(f, func(f *api.Forth) { f.Vm.Dict = append(f.Vm.Dict, api.Word{Name: "end", Xt: xt, Flags: flags}) })
}

func TestImmediateByFlags(t *testing.T) {
	for flags := range 8 {
		for _, here := range []int{1368, 1441, 2048} {
			f := endedBy(busy(t, here), 1400, flags)
			check(t, fmt.Sprintf("Immediate of flags %d at %d", flags, here), f, Immediate, immediate(f), api.OK)
		}
		got, code := Immediate(endedBy(busy(t, 1441), 1400, flags))
		if want := []int{1, 1, 3, 3, 5, 5, 7, 7}[flags]; code != api.OK || got.Vm.Dict[busyWords].Flags != want {
			t.Errorf("flags %d: %d, %d, want %d", flags, got.Vm.Dict[busyWords].Flags, code, want)
		}
	}
}

func TestImmediateByXt(t *testing.T) {
	for _, xt := range []int{1368, 1369, 1376, 1440, 1441, 2040, 2048, 5000, most} {
		f := endedBy(busy(t, 1441), xt, 4)
		check(t, fmt.Sprint("Immediate of a word at ", xt), f, Immediate, immediate(f), api.OK)
	}
	for _, xt := range []int{1367, 1366, 1360, 216, 32, 8, 0, -1, -1368, -5000, least} {
		refused(t, fmt.Sprint("Immediate of a word at ", xt), endedBy(busy(t, 1441), xt, 4), Immediate, api.NoWord)
	}
}

// The last word alone is asked: a primitive, and no word at all.
func TestImmediateWithoutAWord(t *testing.T) {
	refused(t, "Immediate, new", fresh(t), Immediate, api.NoWord)
	refused(t, "Immediate of no word", with(busy(t, 1441), func(f *api.Forth) { f.Vm.Dict = nil }), Immediate, api.NoWord)
	refused(t, "Immediate of a primitive behind words", endedBy(busy(t, 1441), 216, 0), Immediate, api.NoWord)
	f := with(busy(t, 1441), func(f *api.Forth) { f.Vm.Dict = []api.Word{{Name: "one", Xt: 1368}} })
	check(t, "Immediate of the one word", f, Immediate, immediate(f), api.OK)
}

func TestImmediateAndForgetWhileADefinitionIsMade(t *testing.T) {
	for what, f := range map[string]api.Forth{
		"making": making(t, 1440), "answering": answering(t, 1441), "bracketed": bracketed(making(t, 1440)), "begun": begun(fresh(t), "x", false, 0),
		"a primitive last": endedBy(making(t, 1440), 216, 0),
	} {
		refused(t, "Immediate, "+what, f, Immediate, api.Nesting)
		for _, name := range []string{"a", "two", "hid", "DUP", "no such word", ""} {
			refused(t, fmt.Sprintf("Forget of %q, %s", name, what), f, forget(name), api.Nesting)
		}
	}
}

// forgotten is a Forth without the words from the nth one on, whose end is at a place.
func forgotten(f api.Forth, at, here int) api.Forth {
	return with(f, func(f *api.Forth) {
		f.Vm.Dict = f.Vm.Dict[:at]
		f.Vm.Here, f.Vm.Last = here, 0
	})
}

func TestForgetByExample(t *testing.T) {
	f, code := Forget(busy(t, 1441), "tWO")
	if code != api.OK || len(f.Vm.Dict) != 169 || f.Vm.Dict[168].Name != "Two" || f.Vm.Here != 1384 || f.Vm.Last != 0 {
		t.Error(code, len(f.Vm.Dict), f.Vm.Here, f.Vm.Last)
	}
	f, code = Forget(f, "two")
	if code != api.OK || len(f.Vm.Dict) != 168 || f.Vm.Dict[167].Name != "a" || f.Vm.Here != 1376 || f.Vm.Last != 0 {
		t.Error(code, len(f.Vm.Dict), f.Vm.Here, f.Vm.Last)
	}
	f, code = Forget(f, "A")
	if code != api.OK || len(f.Vm.Dict) != 167 || f.Vm.Here != 1368 {
		t.Error(code, len(f.Vm.Dict), f.Vm.Here)
	}
	refused(t, "Forget once more", f, forget("a"), api.NoWord)
}

// The newest word, those with words behind them, and the newest of two of the same name; memory, and handlers, stay.
func TestForgetOfWords(t *testing.T) {
	for _, here := range []int{1440, 1441, 2048} {
		f := busy(t, here)
		for name, x := range map[string][2]int{"a": {167, 1368}, "A": {167, 1368}, "two": {169, 1384}, "Two": {169, 1384}} {
			check(t, fmt.Sprint("Forget of ", name, " at ", here), f, forget(name), forgotten(f, x[0], x[1]), api.OK)
		}
		newest := endedBy(f, 1400, 5)
		check(t, fmt.Sprint("Forget of the newest at ", here), newest, forget("END"), forgotten(newest, busyWords, 1400), api.OK)
		again := endedBy(newest, 1432, 0)
		check(t, fmt.Sprint("Forget of the newest of two at ", here), again, forget("end"), forgotten(again, busyWords+1, 1432), api.OK)
		// One that is hidden isn't found, and the elder one is.
		hidden := endedBy(newest, 1432, 2)
		check(t, fmt.Sprint("Forget of the elder one at ", here), hidden, forget("end"), forgotten(hidden, busyWords, 1400), api.OK)
	}
}

func TestForgetByXt(t *testing.T) {
	for _, here := range []int{1368, 1400, 1441, 2048} {
		for _, xt := range []int{1368, 1369, 1376, 1399, 1400, 1401, 1440, 1441, 1442, 2047, 2048, 2049, 2056, 5000, most, 1367, 1360, 216, 0, -1, -1368, least} {
			f := endedBy(busy(t, here), xt, 0)
			what := fmt.Sprintf("Forget of a word at %d, Here %d", xt, here)
			if xt >= 1368 && xt <= here {
				check(t, what, f, forget("end"), forgotten(f, busyWords, xt), api.OK)
			} else {
				refused(t, what, f, forget("end"), api.BadName)
			}
		}
	}
}

func TestForgetOfWordsThatMayNotBeForgotten(t *testing.T) {
	f := busy(t, 1441)
	for _, name := range []string{"b", "twoo", "tw", "hid", "(exit)", "(str)", "", " ", "a ", "a b", "\x00"} {
		refused(t, fmt.Sprintf("Forget of %q", name), f, forget(name), api.NoWord)
	}
	for _, name := range []string{"EXECUTE", "DUP", "dup", "GET-STATE", ":", "exit", "if", "+"} {
		refused(t, "Forget of "+name, f, forget(name), api.BadName)
		refused(t, "Forget of "+name+" of a new machine", fresh(t), forget(name), api.BadName)
	}
	refused(t, "Forget without words", with(f, func(f *api.Forth) { f.Vm.Dict = nil }), forget("a"), api.NoWord)
	// The newest one alone is asked.
	refused(t, "Forget of an elder one", endedBy(endedBy(f, 1400, 0), 5000, 0), forget("end"), api.BadName)
}

// What is forgotten leaves room, and the names of elder words.
func TestForgetAndLayAgain(t *testing.T) {
	f := fresh(t)
	for range 20 {
		for _, do := range []act{create("x"), constant("y", 5), variable("X"), machine("z", 9)} {
			var code api.Throw
			if f, code = do(f); code != api.OK {
				t.Fatal(code)
			}
		}
		for _, name := range []string{"x", "x"} {
			var code api.Throw
			if f, code = Forget(f, name); code != api.OK {
				t.Fatal(name, code)
			}
		}
		if f.Vm.Here != 1368 || len(f.Vm.Dict) != 167 || f.Vm.Last != 0 {
			t.Fatal(f.Vm.Here, len(f.Vm.Dict))
		}
	}
}
