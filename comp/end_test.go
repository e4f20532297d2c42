package comp

import (
	"fmt"
	"reflect"
	"slices"
	"testing"

	"detent/api"
	"detent/cflow"
	"detent/dict"
	"detent/inner"
)

// P14.3

// ended is a Forth whose definition was ended.
func ended(f api.Forth) api.Forth {
	out := withState(withCells(f, 32), 0)
	word := &out.Vm.Dict[f.Comp.Dict]
	if word.Flags%4 >= 2 {
		word.Flags -= 2
	}
	if f.Comp.On {
		out.Vm.Hand = append(out.Vm.Hand, api.Hand{Xt: word.Xt, Fuel: f.Comp.Fuel})
	}
	out.Comp = api.Comp{}
	return out
}

func TestEndByExample(t *testing.T) {
	f, _ := Begin(busy(t, 1441), "h", true, 50)
	f.Vm, _ = cflow.Lit(f.Vm, 7)
	f, code := End(f)
	if code != api.OK || f.Vm.Here != 1480 || cellAt(f, 1472) != 32 || cellAt(f, 8) != 0 || f.Vm.Last != 1376 || !isSame(f.Comp, api.Comp{}) {
		t.Error(code, f.Vm.Here, cellAt(f, 1472), cellAt(f, 8), f.Vm.Last, f.Comp)
	}
	if f.Vm.Dict[171] != (api.Word{Name: "h", Xt: 1448}) || len(f.Vm.Dict) != 172 || f.Vm.Dict[170] != (api.Word{Name: "hid", Xt: 1392, Flags: 2}) {
		t.Error(f.Vm.Dict[170:])
	}
	if len(f.Vm.Hand) != 3 || f.Vm.Hand[2] != (api.Hand{Xt: 1448, Fuel: 50}) {
		t.Error(f.Vm.Hand)
	}
}

// madeForths are Forths that make a definition which may end, if there is room.
func madeForths(t *testing.T, here int) map[string]api.Forth {
	t.Helper()
	return map[string]api.Forth{
		"making": making(t, here), "answering": answering(t, here), "of no fuel": with(answering(t, here), func(f *api.Forth) { f.Comp.Fuel = 0 }),
		"of much fuel": with(answering(t, here), func(f *api.Forth) { f.Comp.Fuel = most }), "without hands": withHands(answering(t, here), 0),
		"STATE 0":       with(making(t, here), func(f *api.Forth) { clear(f.Vm.Mem.B[8:16]) }),
		"a word ahead":  with(answering(t, here), func(f *api.Forth) { f.Comp.Dict = 0 }),
		"not hidden":    with(answering(t, here), func(f *api.Forth) { f.Comp.Dict = busyWords - 3 }),
		"brackets gone": with(making(t, here), func(f *api.Forth) { f.Comp.Cf = []api.Cf{} }),
	}
}

func TestEndOfWhatWasMade(t *testing.T) {
	for _, here := range []int{1368, 1376, 1400, 1440, 2032, 2040} {
		for what, f := range madeForths(t, here) {
			check(t, fmt.Sprint("End, ", what, " at ", here), f, End, ended(f), api.OK)
		}
	}
}

func TestEndBehindBegin(t *testing.T) {
	for _, ahead := range []api.Forth{fresh(t), busy(t, 1368), busy(t, 1441), busy(t, 1440)} {
		for _, l := range layers()[:4] {
			f, code := l.of("word")(ahead)
			if code != api.OK {
				t.Fatal(l.what, code)
			}
			check(t, "End behind "+l.what, f, End, ended(l.want(ahead, "word")), api.OK)
			for _, lay := range []int{0, -1, 216, most} {
				f.Vm, code = cflow.Lay(f.Vm, lay)
				if code != api.OK {
					t.Fatal(code)
				}
				check(t, "End behind "+l.what+" and cells", f, End, ended(f), api.OK)
			}
		}
	}
}

// The word's other flags stay, and so do all of any other word.
func TestEndByFlags(t *testing.T) {
	for flags := range 8 {
		for _, at := range []int{0, 5, 100, busyWords - 2, busyWords - 1} {
			f := answering(t, 1440)
			f.Comp.Dict = at
			f.Vm.Dict[at].Flags = flags
			check(t, fmt.Sprintf("End of word %d of flags %d", at, flags), f, End, ended(f), api.OK)
			got, _ := End(f)
			if want := []int{0, 1, 0, 1, 4, 5, 4, 5}[flags]; got.Vm.Dict[at].Flags != want {
				t.Errorf("flags %d: %d, want %d", flags, got.Vm.Dict[at].Flags, want)
			}
		}
	}
}

// The handler's word is the one at Comp's Dict.
func TestTheHandlersWord(t *testing.T) {
	f := answering(t, 1440)
	f.Comp.Xt, f.Comp.Dict = 1400, busyWords-3
	got, code := End(f)
	if code != api.OK || len(got.Vm.Hand) != 3 || got.Vm.Hand[2] != (api.Hand{Xt: 1376, Fuel: 70}) {
		t.Error(code, got.Vm.Hand)
	}
}

func TestEndByHowManyHandlersThereAre(t *testing.T) {
	for many := range 65 {
		f := withHands(answering(t, 1440), many)
		if many < 64 {
			check(t, fmt.Sprint("End, handlers ", many), f, End, ended(f), api.OK)
		} else {
			refused(t, fmt.Sprint("End, handlers ", many), f, End, api.Space)
		}
		f = withHands(making(t, 1440), many)
		check(t, fmt.Sprint("End without one more, handlers ", many), f, End, ended(f), api.OK)
	}
}

func TestEndWithoutADefinition(t *testing.T) {
	for _, here := range []int{1368, 1440, 1441, 2041, 2048} {
		for what, f := range map[string]api.Forth{
			"busy": busy(t, here), "64 handlers": withHands(busy(t, here), 64), "no words": with(busy(t, here), func(f *api.Forth) { f.Vm.Dict = nil }),
			"STATE -1": with(busy(t, here), func(f *api.Forth) { copy(f.Vm.Mem.B[8:], bytesOf(-1)) }),
		} {
			refused(t, fmt.Sprint("End, ", what, " at ", here), f, End, api.OnlyComp)
		}
	}
	refused(t, "End, new", fresh(t), End, api.OnlyComp)
}

// Control comes ahead of all that is told of room.
func TestEndWithABracketOpen(t *testing.T) {
	for _, here := range []int{1440, 1441, 2041, 2048} {
		for _, made := range []api.Forth{making(t, here), answering(t, here), withHands(answering(t, here), 64), bracketed(making(t, here))} {
			for kind := 1; kind <= 3; kind++ {
				f := with(made, func(f *api.Forth) { f.Comp.Cf = append(f.Comp.Cf, api.Cf{Kind: kind, At: 1400}) })
				refused(t, fmt.Sprintf("End at %d with brackets %v", here, f.Comp.Cf), f, End, api.Control)
			}
		}
	}
}

// Where no cell may stand: Align, also where there is no room; where there is none else: Space. The want of handlers comes ahead of both.
func TestEndWithoutRoom(t *testing.T) {
	for here := 2024; here <= 2048; here++ {
		for what, f := range madeForths(t, here) {
			what := fmt.Sprint("End, ", what, " at ", here)
			switch {
			case here%8 != 0:
				refused(t, what, f, End, api.Align)
			case here == 2048:
				refused(t, what, f, End, api.Space)
			default:
				check(t, what, f, End, ended(f), api.OK)
			}
		}
		refused(t, fmt.Sprint("End, 64 handlers, at ", here), withHands(answering(t, here), 64), End, api.Space)
	}
	for _, here := range []int{1369, 1375, 1441, 1444, 1447} {
		refused(t, fmt.Sprint("End at ", here), making(t, here), End, api.Align)
		refused(t, fmt.Sprint("End of a handler at ", here), answering(t, here), End, api.Align)
	}
}

// The chapter's example.
func TestSquare(t *testing.T) {
	f, code := Begin(fresh(t), "SQ", false, 0)
	if _, _, known := dict.Find(f.Vm.Dict, "SQ"); code != api.OK || known {
		t.Error("begun:", code, known)
	}
	for _, xt := range []int{216, 360} {
		f.Vm, _ = cflow.Lay(f.Vm, xt)
	}
	f, code = End(f)
	word, at, known := dict.Find(f.Vm.Dict, "sq")
	if code != api.OK || word != (api.Word{Name: "SQ", Xt: 1368}) || at != 167 || !known {
		t.Error("ended:", code, word, at, known)
	}
	f.Vm.D = []int{5}
	v, left, code := inner.Run(f.Vm, word.Xt, 10)
	if code != api.OK || left != 5 || !slices.Equal(v.D, []int{25}) {
		t.Error("run:", v.D, left, code)
	}
}

// What is laid does what it should: a created word leaves the place behind its two cells, a variable a place that has room for a cell, a constant its number, and a machine what its state says.
func TestWordsThatAreLaidRun(t *testing.T) {
	f := fresh(t)
	for _, do := range []act{create("c"), variable("v"), constant("n", -5), machine("m", 2)} {
		var code api.Throw
		if f, code = do(f); code != api.OK {
			t.Fatal(code)
		}
	}
	var got []int
	for _, name := range []string{"c", "v", "n", "m"} {
		word, _, _ := dict.Find(f.Vm.Dict, name)
		v, _, code := inner.Run(f.Vm, word.Xt, 9)
		if code != api.OK {
			t.Error(name, code)
		}
		got = append(got, v.D...)
	}
	if !slices.Equal(got, []int{1384, 1400, -5}) || f.Vm.Last != 1384 {
		t.Error(got, f.Vm.Last)
	}
}

// P14.4

// undone is a Forth whose definition was undone.
func undone(f api.Forth) api.Forth {
	out := withState(f, 0)
	out.Vm.Dict = out.Vm.Dict[:f.Comp.Dict]
	out.Vm.Here, out.Vm.Last = f.Comp.Here, f.Comp.Last
	out.Comp = api.Comp{}
	return out
}

func TestUndoByExample(t *testing.T) {
	ahead := busy(t, 1441)
	f, _ := Begin(ahead, "h", true, 50)
	f.Vm, _ = cflow.Lit(f.Vm, 7)
	f.Vm.Last = 1448
	got := Undo(f)
	if got.Vm.Here != 1441 || got.Vm.Last != 1376 || cellAt(got, 8) != 0 || !isSame(got.Comp, api.Comp{}) || len(got.Vm.Hand) != 2 {
		t.Error(got.Vm.Here, got.Vm.Last, cellAt(got, 8), got.Comp, got.Vm.Hand)
	}
	if !slices.Equal(got.Vm.Dict, ahead.Vm.Dict) {
		t.Error("words:", got.Vm.Dict[167:])
	}
	// Memory stays, but for STATE: what was laid is still there.
	if cellAt(got, 1448) != 256 || cellAt(got, 1456) != 40 || cellAt(got, 1464) != 7 || !slices.Equal(got.Vm.Mem.B[16:], f.Vm.Mem.B[16:]) || !slices.Equal(got.Vm.Mem.B[:8], f.Vm.Mem.B[:8]) {
		t.Error("memory:", got.Vm.Mem.B[1441:1480])
	}
}

func TestUndoOfWhatIsMade(t *testing.T) {
	for _, here := range []int{1368, 1384, 1440, 1441, 2047, 2048} {
		for what, f := range madeForths(t, here) {
			for _, f := range []api.Forth{f, bracketed(f), withHands(f, 64)} {
				check(t, fmt.Sprint("Undo, ", what, " at ", here), f, undo, undone(f), api.OK)
			}
		}
	}
	for _, many := range []int{0, 1, 23, 100, busyWords - 1} {
		f := making(t, 1440)
		f.Comp.Dict = many
		check(t, fmt.Sprint("Undo to words ", many), f, undo, undone(f), api.OK)
		if got := Undo(f); len(got.Vm.Dict) != many {
			t.Error(len(got.Vm.Dict), "words, want", many)
		}
	}
	for _, n := range []int{0, -1, 1368, least, most} {
		f := with(making(t, 1440), func(f *api.Forth) { f.Comp.Last = n })
		check(t, fmt.Sprint("Undo to Last ", n), f, undo, undone(f), api.OK)
	}
}

func TestUndoWithoutADefinition(t *testing.T) {
	for what, f := range map[string]api.Forth{
		"new": fresh(t), "busy": busy(t, 1441), "no words": with(busy(t, 1440), func(f *api.Forth) { f.Vm.Dict = nil }),
		"STATE -1": with(busy(t, 1440), func(f *api.Forth) { copy(f.Vm.Mem.B[8:], bytesOf(-1)) }),
	} {
		check(t, "Undo, "+what, f, undo, f, api.OK)
	}
}

// P14.7: what is begun, and undone, leaves words, and the end, as they were; and of memory what lies behind it alone is another.
func TestBeginAndUndo(t *testing.T) {
	for _, ahead := range []api.Forth{fresh(t), busy(t, 1368), busy(t, 1441), busy(t, 1440), withHands(busy(t, 1447), 63), greatest(t)} {
		for _, l := range layers()[:4] {
			f, code := l.of("word")(ahead)
			if code != api.OK {
				t.Fatal(l.what, code)
			}
			check(t, "Undo behind "+l.what, f, undo, undone(l.want(ahead, "word")), api.OK)
			f.Vm, _ = cflow.Lit(f.Vm, 7)
			f.Vm, f.Comp.Cf, _ = cflow.Bracket(f.Vm, nil, "IF")
			got := Undo(f)
			if !Right(got) || !slices.Equal(got.Vm.Dict, ahead.Vm.Dict) || got.Vm.Here != ahead.Vm.Here || got.Vm.Last != ahead.Vm.Last || !slices.Equal(got.Vm.Mem.B[:got.Vm.Here], ahead.Vm.Mem.B[:got.Vm.Here]) {
				t.Error(l.what, "isn't undone")
			}
			same := deep(got)
			same.Vm.Mem = ahead.Vm.Mem
			if !reflect.DeepEqual(same, deep(ahead)) && differs(same, ahead) != "" {
				t.Error(l.what, differs(same, ahead))
			}
		}
	}
}
