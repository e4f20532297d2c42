package comp

import (
	"fmt"
	"reflect"
	"testing"

	"detent/api"
)

// P14.1

// rightForths are Forths that are right, by what they are.
func rightForths(t *testing.T) map[string]api.Forth {
	t.Helper()
	return map[string]api.Forth{
		"new": fresh(t), "the greatest": greatest(t), "busy": busy(t, 1441),
		"begun": begun(fresh(t), "x", false, 0), "begun in the greatest": begun(greatest(t), "x", true, 5),
		"making": making(t, 1441), "answering": answering(t, 1440), "bracketed": bracketed(making(t, 2048)),
	}
}

// expectRight holds Right of a Forth that is turned in one thing against what it should be.
func expectRight(t *testing.T, f api.Forth, what string, want bool, turn func(f *api.Forth)) {
	t.Helper()
	if got := Right(with(f, turn)); got != want {
		t.Errorf("Right, %s: %v", what, got)
	}
}

func TestRightOfRightForths(t *testing.T) {
	for what, f := range rightForths(t) {
		if !Right(f) || !Right(deep(f)) || !Right(roomy(f)) {
			t.Error(what, "isn't right")
		}
	}
	if Right(api.Forth{}) || Right(api.Forth{Comp: api.Comp{Xt: 1368}}) {
		t.Error("nothing is right")
	}
}

// By its machine, whether a definition is made or not.
func TestRightByItsMachine(t *testing.T) {
	for what, turn := range map[string]func(f *api.Forth){
		"Conf":    func(f *api.Forth) { f.Vm.Conf.Ret = 0 },
		"bytes":   func(f *api.Forth) { f.Vm.Mem.B = f.Vm.Mem.B[:2040] },
		"more":    func(f *api.Forth) { f.Vm.Mem.B = append(f.Vm.Mem.B, make([]byte, 8)...) },
		"a patch": func(f *api.Forth) { f.Vm.Mem.Old = []api.Patch{{At: 65536, Old: []byte{1}}} },
		"Here":    func(f *api.Forth) { f.Vm.Here = 1367 },
		"D":       func(f *api.Forth) { f.Vm.D = make([]int, 257) },
		"R":       func(f *api.Forth) { f.Vm.R = make([]int, 257) },
		"F":       func(f *api.Forth) { f.Vm.F = []api.Frame{{D: -1}} },
		"a word":  func(f *api.Forth) { f.Vm.Dict[5].Flags = 8 },
		"a name":  func(f *api.Forth) { f.Vm.Dict[len(f.Vm.Dict)-1].Name = "" },
		"Out":     func(f *api.Forth) { f.Vm.Out = make([]byte, 65537) },
		"Pic":     func(f *api.Forth) { f.Vm.Pic = api.Pic{B: []byte{1}} },
		"Req":     func(f *api.Forth) { f.Vm.Req = make([]api.Req, 17) },
		"Free":    func(f *api.Forth) { f.Vm.Free = 65 },
		"Next":    func(f *api.Forth) { f.Vm.Next = -1 },
		"Hand":    func(f *api.Forth) { f.Vm.Hand = []api.Hand{{Fuel: -1}} },
		"hands":   func(f *api.Forth) { f.Vm.Hand = make([]api.Hand, 65) },
	} {
		for of, f := range rightForths(t) {
			expectRight(t, f, of+" by "+what, false, turn)
		}
	}
}

// No definition is made: Comp is all 0, and empty.
func TestRightWithoutADefinition(t *testing.T) {
	for what, f := range map[string]api.Forth{"new": fresh(t), "busy": busy(t, 1441), "the greatest": greatest(t)} {
		for _, n := range []int{1, -1, 8, 1368, 1 << 32, least, most} {
			for part, turn := range map[string]func(f *api.Forth){
				"Here": func(f *api.Forth) { f.Comp.Here = n }, "Dict": func(f *api.Forth) { f.Comp.Dict = n },
				"Last": func(f *api.Forth) { f.Comp.Last = n }, "Fuel": func(f *api.Forth) { f.Comp.Fuel = n },
			} {
				expectRight(t, f, fmt.Sprint(what, ", ", part, " ", n), false, turn)
			}
		}
		expectRight(t, f, what+", On", false, func(f *api.Forth) { f.Comp.On = true })
		for kind := range 4 {
			expectRight(t, f, fmt.Sprint(what, ", a bracket of kind ", kind), false, func(f *api.Forth) { f.Comp.Cf = []api.Cf{{Kind: kind}} })
		}
		expectRight(t, f, what+", brackets that aren't nil", true, func(f *api.Forth) { f.Comp.Cf = make([]api.Cf, 0, 5) })
	}
}

func TestRightByXt(t *testing.T) {
	for what, base := range map[string]api.Forth{"2048 bytes": begun(fresh(t), "x", false, 0), "65536": begun(greatest(t), "x", true, 5)} {
		bytes := len(base.Vm.Mem.B)
		for xt, want := range map[int]bool{
			1368: true, 1376: true, 1392: true, 2032: true, 2040: true, bytes - 16: true, bytes - 8: true,
			1360: false, 1352: false, 8: false, -8: false, -1368: false, least: false, least + 8: false, 1: false, -1: false,
			1367: false, 1369: false, 1370: false, 1371: false, 1372: false, 1373: false, 1374: false, 1375: false, 1377: false,
			bytes - 9: false, bytes - 7: false, bytes - 1: false, bytes: false, bytes + 1: false, bytes + 8: false, 1<<32 + 1368: false, most: false, most - 7: false,
		} {
			// Here is Start, so that it isn't above any Xt that may be.
			expectRight(t, base, fmt.Sprint(what, ", Xt ", xt), want, func(f *api.Forth) { f.Comp.Xt, f.Comp.Here = xt, 1368 })
		}
	}
}

func TestRightByCompsHere(t *testing.T) {
	for _, xt := range []int{1368, 1376, 1440, 2040} {
		for _, here := range []int{1360, 1367, 1368, 1369, 1375, 1376, 1377, 1384, 1439, 1440, 1441, 1448, 2039, 2040, 2041, 2048, 0, -1, -1368, 1 << 32, 1<<32 + 1368, least, most} {
			want := here >= 1368 && here <= xt
			expectRight(t, making(t, 1441), fmt.Sprint("Xt ", xt, ", Comp's Here ", here), want, func(f *api.Forth) { f.Comp.Xt, f.Comp.Here = xt, here })
		}
	}
}

func TestRightByCompsDict(t *testing.T) {
	for many, base := range map[int]api.Forth{busyWords: making(t, 1441), 168: begun(fresh(t), "x", true, 0)} {
		for at, want := range map[int]bool{
			0: true, 1: true, 100: true, many - 2: true, many - 1: true,
			-1: false, -2: false, many: false, many + 1: false, 200: false, 300: false, 1024: false, 1 << 32: false, least: false, most: false,
		} {
			expectRight(t, base, fmt.Sprint(many, " words, Comp's Dict ", at), want, func(f *api.Forth) { f.Comp.Dict = at })
		}
		expectRight(t, base, "no words", false, func(f *api.Forth) { f.Vm.Dict, f.Comp.Dict = nil, 0 })
		expectRight(t, base, "one word", true, func(f *api.Forth) { f.Vm.Dict, f.Comp.Dict = f.Vm.Dict[:1], 0 })
	}
}

func TestRightByFuelAndWhatMayBeAnything(t *testing.T) {
	for _, base := range []api.Forth{making(t, 1441), answering(t, 1441)} {
		for _, n := range []int{0, 1, 1 << 20, 1<<20 + 1, 1 << 32, most, -1, -2, -1 << 20, -1 << 32, least} {
			expectRight(t, base, fmt.Sprint("Fuel ", n), n >= 0, func(f *api.Forth) { f.Comp.Fuel = n })
			expectRight(t, base, fmt.Sprint("Comp's Last ", n), true, func(f *api.Forth) { f.Comp.Last = n })
		}
		expectRight(t, base, "On, turned", true, func(f *api.Forth) { f.Comp.On = !f.Comp.On })
		// The word at Comp's Dict may have another Xt, and needn't be hidden.
		expectRight(t, base, "another word", true, func(f *api.Forth) { f.Comp.Dict = 23 })
		expectRight(t, base, "another Xt", true, func(f *api.Forth) { f.Comp.Xt = 1400 })
		// It may end ahead of where it began.
		expectRight(t, base, "another end", true, func(f *api.Forth) { f.Vm.Here = 1368 })
	}
}

func TestRightByOpenBrackets(t *testing.T) {
	for i, x := range []struct {
		l    []api.Cf
		want bool
	}{
		{nil, true}, {[]api.Cf{}, true}, {[]api.Cf{{Kind: 1}, {Kind: 2, At: -5}, {Kind: 3, Leaves: make([]int, 32)}}, true}, {manyOf(api.Cf{Kind: 2}, 32), true},
		{[]api.Cf{{}}, false}, {[]api.Cf{{Kind: 4}}, false}, {[]api.Cf{{Kind: 1}, {Kind: 0}}, false}, {[]api.Cf{{Kind: 1, Leaves: []int{1}}}, false},
		{[]api.Cf{{Kind: 3, Leaves: make([]int, 33)}}, false}, {manyOf(api.Cf{Kind: 2}, 33), false},
	} {
		expectRight(t, making(t, 1441), fmt.Sprint("brackets, row ", i), x.want, func(f *api.Forth) { f.Comp.Cf = x.l })
	}
}

// manyOf is a row of so many.
func manyOf[T any](x T, many int) []T {
	var l []T
	for range many {
		l = append(l, x)
	}
	return l
}

func expectSame(t *testing.T, what string, a, b api.Forth, want bool) {
	t.Helper()
	if Same(a, b) != want || Same(b, a) != want {
		t.Errorf("Same, %s: %v, %v, want %v", what, Same(a, b), Same(b, a), want)
	}
}

// wrongForths are such that aren't right.
func wrongForths(t *testing.T) map[string]api.Forth {
	t.Helper()
	return map[string]api.Forth{
		"nothing":    {},
		"half made":  with(busy(t, 1441), func(f *api.Forth) { f.Comp.Last = 7 }),
		"misplaced":  with(making(t, 1441), func(f *api.Forth) { f.Comp.Xt, f.Comp.Here, f.Comp.Dict, f.Comp.Fuel = least, most, -1, least }),
		"brackets":   with(making(t, 1441), func(f *api.Forth) { f.Comp.Cf = manyOf(api.Cf{Kind: 7, Leaves: []int{1}}, 50) }),
		"no machine": {Comp: api.Comp{Xt: 1368, Here: 1368, On: true}},
		"memory":     with(busy(t, 1441), func(f *api.Forth) { f.Vm.Mem.B = f.Vm.Mem.B[:3] }),
	}
}

func TestSameOfItself(t *testing.T) {
	for what, f := range rightForths(t) {
		expectSame(t, what, f, f, true)
		expectSame(t, what+", alike", f, deep(f), true)
		expectSame(t, what+", with room", f, roomy(f), true)
	}
	for what, f := range wrongForths(t) {
		if Right(f) {
			t.Error(what, "is right")
		}
		expectSame(t, what, f, deep(f), true)
		expectSame(t, what+", and what is right", f, busy(t, 1441), false)
		expectSame(t, what+", and another word", f, with(f, func(f *api.Forth) { f.Vm.Dict = append(f.Vm.Dict, api.Word{}) }), false)
		expectSame(t, what+", and another definition", f, with(f, func(f *api.Forth) { f.Comp.Here++ }), false)
	}
}

func TestSameOfListsWithoutElements(t *testing.T) {
	empty := api.Forth{
		Vm: api.Vm{
			Mem: api.Mem{B: []byte{}, Old: []api.Patch{}}, D: []int{}, R: []int{}, F: []api.Frame{}, Dict: []api.Word{},
			Out: []byte{}, Pic: api.Pic{B: []byte{}}, Req: []api.Req{}, Hand: []api.Hand{},
		},
		Comp: api.Comp{Cf: []api.Cf{}},
	}
	expectSame(t, "nil, and empty", api.Forth{}, empty, true)
	a, b := api.Forth{}, api.Forth{}
	a.Comp.Cf, b.Comp.Cf = []api.Cf{{Kind: 3}}, []api.Cf{{Kind: 3, Leaves: []int{}}}
	expectSame(t, "no Leaves", a, b, true)
}

// turnEach turns all that is in a value, one thing after the other; each is as it was when the next one is turned. Of memory's bytes, and of words, just some are.
func turnEach(what string, x reflect.Value, tell func(what string)) {
	was := reflect.New(x.Type()).Elem()
	was.Set(x)
	set := func(how string, to reflect.Value) {
		x.Set(to)
		tell(what + how)
		x.Set(was)
	}
	switch x.Kind() {
	case reflect.Struct:
		for i := range x.NumField() {
			turnEach(what+"."+x.Type().Field(i).Name, x.Field(i), tell)
		}
	case reflect.Slice:
		for i := 0; i < x.Len(); i += 1 + x.Len()/40 {
			turnEach(fmt.Sprint(what, " at ", i), x.Index(i), tell)
		}
		set(" with an empty one", reflect.Append(x.Slice3(0, x.Len(), x.Len()), reflect.Zero(x.Type().Elem())))
		if x.Len() > 0 {
			set(" without its last one", x.Slice(0, x.Len()-1))
			set(" without its first one", x.Slice(1, x.Len()))
		}
	case reflect.Int:
		set(" and 1", reflect.ValueOf(int(was.Int())+1))
		set(" and 2^32", reflect.ValueOf(int(was.Int())+1<<32))
		set(", its sign turned", reflect.ValueOf(int(was.Int())^least))
	case reflect.Uint8:
		set(", a bit turned", reflect.ValueOf(byte(was.Uint())^16))
	case reflect.Bool:
		set(", turned", reflect.ValueOf(!was.Bool()))
	case reflect.String:
		set(", a sign more", reflect.ValueOf(was.String()+"x"))
	default:
		panic(x.Kind())
	}
}

func TestSameLooksAtEachPart(t *testing.T) {
	seen := map[string]bool{}
	for of, f := range rightForths(t) {
		if of == "the greatest" || of == "begun in the greatest" {
			continue
		}
		other := deep(f)
		turnEach("", reflect.ValueOf(&other).Elem(), func(what string) {
			seen[what] = true
			if Same(f, other) || Same(other, f) {
				t.Errorf("Same of %s, %s: yes", of, what)
			}
			if !Same(other, deep(other)) {
				t.Errorf("%s, %s isn't the same as itself", of, what)
			}
		})
		expectSame(t, of+", all turned back", f, other, true)
	}
	// So that the test can't go on without what it is to look at.
	for _, what := range []string{
		".Comp.Xt and 1", ".Comp.Here and 1", ".Comp.Dict and 2^32", ".Comp.Last, its sign turned", ".Comp.On, turned", ".Comp.Fuel and 1", ".Comp.Cf with an empty one", ".Comp.Cf without its first one",
		".Comp.Cf at 0.Kind and 1", ".Comp.Cf at 1.At and 1", ".Comp.Cf at 1.Leaves at 1 and 1", ".Vm.Here and 1", ".Vm.Last and 1", ".Vm.Conf.Words and 1", ".Vm.Mem.Old at 2.At and 1", ".Vm.Mem.B at 0, a bit turned",
		".Vm.Dict at 0.Name, a sign more", ".Vm.Hand at 1.Out, turned", ".Vm.Hand at 0.Fuel and 1", ".Vm.Hand without its last one", ".Vm.D at 2 and 1", ".Vm.Now and 1", ".Vm.Pic.On, turned",
	} {
		if !seen[what] {
			t.Errorf("%q wasn't looked at", what)
		}
	}
}

// What is in one part isn't taken for what is in another one.
func TestSameTellsPartsApart(t *testing.T) {
	f := bracketed(making(t, 1441))
	for what, turn := range map[string]func(f *api.Forth){
		"Xt and Here":           func(f *api.Forth) { f.Comp.Xt, f.Comp.Here = f.Comp.Here, f.Comp.Xt },
		"Dict and Last":         func(f *api.Forth) { f.Comp.Dict, f.Comp.Last = f.Comp.Last, f.Comp.Dict },
		"Last and Fuel":         func(f *api.Forth) { f.Comp.Last, f.Comp.Fuel = f.Comp.Fuel, f.Comp.Last },
		"both Heres":            func(f *api.Forth) { f.Comp.Here, f.Vm.Here = f.Vm.Here, f.Comp.Here },
		"both Lasts":            func(f *api.Forth) { f.Comp.Last, f.Vm.Last = f.Vm.Last, f.Comp.Last },
		"the brackets' order":   func(f *api.Forth) { f.Comp.Cf[0], f.Comp.Cf[1] = f.Comp.Cf[1], f.Comp.Cf[0] },
		"the words' order":      func(f *api.Forth) { f.Vm.Dict[0], f.Vm.Dict[1] = f.Vm.Dict[1], f.Vm.Dict[0] },
		"a bracket and a Leaf":  func(f *api.Forth) { f.Comp.Cf[1].At, f.Comp.Cf[1].Leaves[0] = f.Comp.Cf[1].Leaves[0], f.Comp.Cf[1].At },
		"a definition less":     func(f *api.Forth) { f.Comp = api.Comp{} },
		"another machine":       func(f *api.Forth) { f.Vm = fresh(t).Vm },
		"nothing but its Xt":    func(f *api.Forth) { f.Comp = api.Comp{Xt: f.Comp.Xt} },
		"nothing but a machine": func(f *api.Forth) { f.Comp, f.Vm = api.Comp{}, api.Vm{} },
	} {
		expectSame(t, what, f, with(f, turn), false)
	}
}

// inPairs turns each two of some parts at once, and tells of each.
func inPairs(parts map[string]func(f *api.Forth), tell func(what string, turn func(f *api.Forth))) {
	for first, one := range parts {
		for second, other := range parts {
			tell(first+" and "+second, func(f *api.Forth) {
				one(f)
				other(f)
			})
		}
	}
}

// What is wrong in two parts isn't right either.
func TestRightByTwoParts(t *testing.T) {
	parts := map[string]func(f *api.Forth){
		"machine": func(f *api.Forth) { f.Vm.Conf.Ret = 0 }, "Here": func(f *api.Forth) { f.Comp.Here = 1367 }, "Dict": func(f *api.Forth) { f.Comp.Dict = -1 },
		"Fuel": func(f *api.Forth) { f.Comp.Fuel = -1 }, "brackets": func(f *api.Forth) { f.Comp.Cf = []api.Cf{{Kind: 4}} },
	}
	inPairs(parts, func(what string, turn func(f *api.Forth)) { expectRight(t, busy(t, 1441), what, false, turn) })
	parts["Here above"] = func(f *api.Forth) { f.Comp.Here = 1393 }
	parts["Xt that isn't a cell's place"] = func(f *api.Forth) { f.Comp.Xt = 1393 }
	parts["Xt below"] = func(f *api.Forth) { f.Comp.Xt = 1360 }
	parts["Xt above"] = func(f *api.Forth) { f.Comp.Xt = 2048 }
	parts["Xt above that isn't a cell's place"] = func(f *api.Forth) { f.Comp.Xt = 2049 }
	inPairs(parts, func(what string, turn func(f *api.Forth)) {
		expectRight(t, making(t, 1441), what, false, turn)
	})
}

// What differs in two parts isn't the same either.
func TestSameByTwoParts(t *testing.T) {
	parts := map[string]func(f *api.Forth){
		"machine": func(f *api.Forth) { f.Vm.Last = 4 }, "Xt": func(f *api.Forth) { f.Comp.Xt = 1400 }, "Here": func(f *api.Forth) { f.Comp.Here = 1368 },
		"Dict": func(f *api.Forth) { f.Comp.Dict = 3 }, "Last": func(f *api.Forth) { f.Comp.Last = 5 }, "On": func(f *api.Forth) { f.Comp.On = true },
		"Fuel": func(f *api.Forth) { f.Comp.Fuel = 6 }, "brackets": func(f *api.Forth) { f.Comp.Cf = nil },
	}
	f := bracketed(making(t, 1441))
	inPairs(parts, func(what string, turn func(f *api.Forth)) { expectSame(t, what, f, with(f, turn), false) })
}
