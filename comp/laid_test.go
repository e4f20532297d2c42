package comp

import (
	"fmt"
	"slices"
	"strings"
	"testing"

	"detent/api"
)

// A word that is laid: P14.2 and P14.5 alike.

// layer is a call that lays a word: what it makes of a Forth in which no definition is made, and how many cells it lays.
type layer struct {
	what  string
	of    func(name string) act
	want  func(f api.Forth, name string) api.Forth
	cells int
}

// lastCreated is a Forth with a word more that is the last one that was created.
func lastCreated(f api.Forth, name string, cells ...int) api.Forth {
	f, xt := withWord(f, name, 0, cells...)
	f.Vm.Last = xt
	return f
}

// plain is a Forth with a word more.
func plain(f api.Forth, name string, cells ...int) api.Forth {
	f, _ = withWord(f, name, 0, cells...)
	return f
}

// machineOf is a layer that makes a machine of so many states.
func machineOf(n int) layer {
	cells := append([]int{260, 0, 0, n}, make([]int, max(n, 0))...)
	return layer{
		fmt.Sprint("Machine of ", n), func(name string) act { return machine(name, n) },
		func(f api.Forth, name string) api.Forth { return plain(f, name, cells...) }, len(cells),
	}
}

// constantOf is a layer that makes a constant.
func constantOf(n int) layer {
	return layer{
		fmt.Sprint("Constant of ", n), func(name string) act { return constant(name, n) },
		func(f api.Forth, name string) api.Forth { return plain(f, name, 258, 0, n) }, 3,
	}
}

// beginOf is a layer that begins a definition; kept is the fuel that is kept of it.
func beginOf(on bool, fuel, kept int) layer {
	return layer{
		fmt.Sprint("Begin, ", on, ", fuel ", fuel), func(name string) act { return begin(name, on, fuel) },
		func(f api.Forth, name string) api.Forth { return begun(f, name, on, kept) }, 1,
	}
}

// layers are such of all kinds.
func layers() []layer {
	return []layer{
		beginOf(false, 0, 0), beginOf(false, 9, 0), beginOf(true, 0, 0), beginOf(true, 9, 9),
		{"Create", create, func(f api.Forth, name string) api.Forth { return lastCreated(f, name, 257, 0) }, 2},
		{"Variable", variable, func(f api.Forth, name string) api.Forth { return lastCreated(f, name, 257, 0, 0) }, 3},
		constantOf(0), constantOf(-7), machineOf(1), machineOf(3),
	}
}

// At all ends, with a cell's places of all kinds; at 1368, where a new machine begins, too.
func TestWordsAreLaidWhereverTheEndIs(t *testing.T) {
	for _, l := range layers() {
		for _, here := range []int{1368, 1369, 1370, 1371, 1372, 1373, 1374, 1375, 1376, 1440, 1441, 1447, 1984} {
			f := busy(t, here)
			check(t, fmt.Sprint(l.what, " at ", here), f, l.of("word"), l.want(f, "word"), api.OK)
		}
		f := fresh(t)
		check(t, l.what+" of a new machine", f, l.of("w"), l.want(f, "w"), api.OK)
	}
}

// Near memory's end, whether a cell may stand there or not: just enough room, a byte less, and ever less.
func TestWordsAreLaidUpToTheEndOfMemory(t *testing.T) {
	for _, l := range layers() {
		for here := 2048 - 8*l.cells - 17; here <= 2048; here++ {
			f := busy(t, here)
			what := fmt.Sprint(l.what, " at ", here)
			if (here+7)/8*8+8*l.cells <= 2048 {
				check(t, what, f, l.of("word"), l.want(f, "word"), api.OK)
			} else {
				refused(t, what, f, l.of("word"), api.Space)
			}
		}
	}
}

func TestWordsAreLaidUpToTheEndOfTheGreatestMemory(t *testing.T) {
	for _, l := range layers() {
		f := greatest(t)
		f.Vm.Here = 65536 - 8*l.cells - 3
		check(t, l.what, f, l.of("word"), l.want(f, "word"), api.OK)
		f.Vm.Here += 4
		refused(t, l.what+" without room", f, l.of("word"), api.Space)
	}
}

// badNames are names that may not be, by why.
func badNames() map[string]api.Throw {
	return map[string]api.Throw{
		"": api.NoName, strings.Repeat("x", 32): api.LongName, strings.Repeat(" ", 32): api.LongName, strings.Repeat("y", 70000): api.LongName,
		" ": api.BadName, "a b": api.BadName, "\x00": api.BadName, "a\n": api.BadName, "\tb": api.BadName, "\x1f": api.BadName, strings.Repeat("x", 30) + " ": api.BadName,
	}
}

func TestWordsByTheirNames(t *testing.T) {
	for _, l := range layers() {
		for name, code := range badNames() {
			refused(t, fmt.Sprintf("%s of %.40q", l.what, name), busy(t, 1441), l.of(name), code)
		}
		// Names that there are, other signs than letters, and the longest ones.
		for _, name := range []string{"a", "DUP", "two", "hid", "(exit)", ":", "!", "\x7f", "\xff\x80", "é", "漢", strings.Repeat("x", 31)} {
			f := busy(t, 1441)
			check(t, fmt.Sprintf("%s of %q", l.what, name), f, l.of(name), l.want(f, name), api.OK)
		}
	}
}

// As many words as the configuration says, or 1024, whatever is below that.
func TestWordsByHowManyThereAre(t *testing.T) {
	for _, l := range layers() {
		for _, room := range []int{200, 300, 1023, 1024} {
			for _, many := range []int{168, 199, 200, 201, 299, 300, 1022, 1023, 1024} {
				if many > room {
					continue
				}
				f := busy(t, 1441)
				f.Vm.Conf.Words = room
				f.Vm.Dict = append(f.Vm.Dict[:168:168], manyOf(api.Word{Name: "one", Xt: 1368}, many-168)...)
				if what := fmt.Sprint(l.what, " behind ", many, " words of ", room); many < room {
					check(t, what, f, l.of("word"), l.want(f, "word"), api.OK)
				} else {
					refused(t, what, f, l.of("word"), api.Space)
				}
			}
		}
	}
}

// A name's code comes ahead of the want of words, and of memory.
func TestANamesCodeComesAheadOfSpace(t *testing.T) {
	for _, l := range layers() {
		for name, code := range badNames() {
			f := busy(t, 2048)
			f.Vm.Conf.Words = 200
			f.Vm.Dict = append(f.Vm.Dict, manyOf(api.Word{Name: "one"}, 200-busyWords)...)
			refused(t, fmt.Sprintf("%s of %.40q", l.what, name), f, l.of(name), code)
		}
	}
}

// Nesting comes ahead of all else, whatever is made.
func TestNoWordIsLaidWhileADefinitionIsMade(t *testing.T) {
	all := append(layers(), beginOf(true, -1, 0), beginOf(true, 1<<20+1, 0), machineOf(0), machineOf(-1), machineOf(257))
	for _, l := range all {
		for what, f := range map[string]api.Forth{
			"making": making(t, 1441), "answering": answering(t, 1440), "bracketed": bracketed(making(t, 1440)), "full": making(t, 2048), "many hands": withHands(answering(t, 1440), 64),
			"begun": begun(fresh(t), "x", false, 0), "STATE 0": with(making(t, 1440), func(f *api.Forth) { clear(f.Vm.Mem.B[8:16]) }),
		} {
			for _, name := range []string{"word", "", "a b", strings.Repeat("x", 32)} {
				refused(t, fmt.Sprintf("%s of %q, %s", l.what, name, what), f, l.of(name), api.Nesting)
			}
		}
	}
}

// What is said of no definition that is made is told by Comp, not by STATE, which words can write.
func TestWordsAreLaidWhateverStateSays(t *testing.T) {
	for _, l := range layers() {
		for _, n := range []int{-1, 1, 77, most, least} {
			f := busy(t, 1441)
			copy(f.Vm.Mem.B[8:], bytesOf(n))
			check(t, fmt.Sprint(l.what, ", STATE ", n), f, l.of("word"), l.want(f, "word"), api.OK)
		}
	}
}

// P14.2

func TestBeginByExample(t *testing.T) {
	f, code := Begin(fresh(t), "SQ", false, 50)
	want := api.Comp{Xt: 1368, Here: 1368, Dict: 167}
	if code != api.OK || f.Vm.Here != 1376 || cellAt(f, 1368) != 256 || cellAt(f, 8) != -1 || f.Vm.Last != 0 || len(f.Vm.Hand) != 0 {
		t.Error(code, f.Vm.Here, cellAt(f, 1368), cellAt(f, 8), f.Vm.Last)
	}
	if len(f.Vm.Dict) != 168 || f.Vm.Dict[167] != (api.Word{Name: "SQ", Xt: 1368, Flags: 2}) || !isSame(f.Comp, want) {
		t.Error(len(f.Vm.Dict), f.Vm.Dict[167], f.Comp)
	}
	f, code = Begin(busy(t, 1441), "h", true, 50)
	want = api.Comp{Xt: 1448, Here: 1441, Dict: 171, Last: 1376, On: true, Fuel: 50}
	if code != api.OK || f.Vm.Here != 1456 || cellAt(f, 1448) != 256 || cellAt(f, 8) != -1 || f.Vm.Last != 1376 || len(f.Vm.Hand) != 2 {
		t.Error(code, f.Vm.Here, cellAt(f, 1448), cellAt(f, 8), f.Vm.Last)
	}
	if len(f.Vm.Dict) != 172 || f.Vm.Dict[171] != (api.Word{Name: "h", Xt: 1448, Flags: 2}) || !isSame(f.Comp, want) {
		t.Error(len(f.Vm.Dict), f.Vm.Dict[171], f.Comp)
	}
	if !slices.Equal(f.Vm.Mem.B[1441:1448], make([]byte, 7)) {
		t.Error("what is laid up to a cell's place:", f.Vm.Mem.B[1441:1448])
	}
}

func TestBeginByFuel(t *testing.T) {
	for _, fuel := range []int{0, 1, 2, 50, 1<<20 - 1, 1 << 20, 1<<20 + 1, 1 << 21, 1 << 32, 1<<32 + 5, most, -1, -2, -1 << 20, -1 << 32, least} {
		f := busy(t, 1441)
		if l := beginOf(true, fuel, fuel); fuel >= 0 && fuel <= 1<<20 {
			check(t, l.what, f, l.of("h"), l.want(f, "h"), api.OK)
		} else {
			refused(t, l.what, f, l.of("h"), api.BadNumber)
		}
		l := beginOf(false, fuel, 0)
		check(t, l.what, f, l.of("h"), l.want(f, "h"), api.OK)
	}
}

func TestBeginByHowManyHandlersThereAre(t *testing.T) {
	for many := range 65 {
		f := withHands(busy(t, 1441), many)
		if l := beginOf(true, 5, 5); many < 64 {
			check(t, fmt.Sprint(l.what, ", handlers ", many), f, l.of("h"), l.want(f, "h"), api.OK)
		} else {
			refused(t, fmt.Sprint(l.what, ", handlers ", many), f, l.of("h"), api.Space)
		}
		l := beginOf(false, 5, 0)
		check(t, fmt.Sprint(l.what, ", handlers ", many), f, l.of("h"), l.want(f, "h"), api.OK)
	}
}

// BadNumber comes ahead of the want of handlers, and both ahead of a name's code.
func TestWhichCodeOfBeginComesFirst(t *testing.T) {
	names := map[string]api.Throw{"word": api.OK, "": api.NoName, "a b": api.BadName, strings.Repeat("x", 32): api.LongName}
	for name, nameCode := range names {
		for _, here := range []int{1441, 2048} {
			free, full := busy(t, here), withHands(busy(t, here), 64)
			for _, fuel := range []int{-1, 1<<20 + 1} {
				what := fmt.Sprintf("Begin of %q at %d, fuel %d", name, here, fuel)
				refused(t, what, free, begin(name, true, fuel), api.BadNumber)
				refused(t, what+", 64 handlers", full, begin(name, true, fuel), api.BadNumber)
				if nameCode != api.OK {
					refused(t, what+", without a handler", full, begin(name, false, fuel), nameCode)
				}
			}
			refused(t, fmt.Sprintf("Begin of %q at %d, 64 handlers", name, here), full, begin(name, true, 5), api.Space)
		}
	}
}

// P14.5

// Cell by cell, and what Last is.
func TestWhatIsLaidByExample(t *testing.T) {
	for _, x := range []struct {
		what  string
		do    act
		cells []int
		last  int
	}{
		{"Create", create("w"), []int{257, 0}, 1448}, {"Variable", variable("w"), []int{257, 0, 0}, 1448},
		{"Constant of 5", constant("w", 5), []int{258, 0, 5}, 1376}, {"Constant of -1", constant("w", -1), []int{258, 0, -1}, 1376},
		{"Machine of 1", machine("w", 1), []int{260, 0, 0, 1, 0}, 1376}, {"Machine of 3", machine("w", 3), []int{260, 0, 0, 3, 0, 0, 0}, 1376},
	} {
		ahead := busy(t, 1441)
		f, code := x.do(ahead)
		if code != api.OK || f.Vm.Here != 1448+8*len(x.cells) || f.Vm.Last != x.last || len(f.Vm.Dict) != 172 || f.Vm.Dict[171] != (api.Word{Name: "w", Xt: 1448}) {
			t.Error(x.what, code, f.Vm.Here, f.Vm.Last, f.Vm.Dict[len(f.Vm.Dict)-1])
		}
		for i, n := range x.cells {
			if cellAt(f, 1448+8*i) != n {
				t.Errorf("%s: cell %d is %d, want %d", x.what, i, cellAt(f, 1448+8*i), n)
			}
		}
		if !slices.Equal(f.Vm.Mem.B[:1441], ahead.Vm.Mem.B[:1441]) || !slices.Equal(f.Vm.Mem.B[1441:1448], make([]byte, 7)) || !slices.Equal(f.Vm.Mem.B[f.Vm.Here:], ahead.Vm.Mem.B[f.Vm.Here:]) {
			t.Error(x.what, "writes elsewhere")
		}
		if f.Comp.Xt != 0 || cellAt(f, 8) != 0 {
			t.Error(x.what, "begins a definition")
		}
	}
}

func TestConstantsOfAllKinds(t *testing.T) {
	for _, n := range []int{0, 1, -1, 255, 256, -256, 1368, 1 << 32, -1 << 32, 0x0123456789abcdef, least, least + 1, most - 1, most} {
		f := busy(t, 1441)
		l := constantOf(n)
		check(t, l.what, f, l.of("word"), l.want(f, "word"), api.OK)
	}
}

func TestMachinesByHowManyStatesTheyHave(t *testing.T) {
	for _, n := range []int{1, 2, 3, 64, 80, 81} {
		f := busy(t, 1368)
		l := machineOf(n)
		check(t, l.what, f, l.of("word"), l.want(f, "word"), api.OK)
	}
	for _, n := range []int{82, 83, 128, 255, 256} {
		refused(t, fmt.Sprint("Machine without room, of ", n), busy(t, 1368), machine("word", n), api.Space)
	}
	for _, n := range []int{0, -1, -2, -256, -1 << 32, least, 257, 258, 512, 1<<32 + 1, 1 << 32, most} {
		refused(t, fmt.Sprint("Machine of ", n), busy(t, 1441), machine("word", n), api.BadNumber)
		// Ahead of what is told of the word that would be laid.
		for name := range badNames() {
			refused(t, fmt.Sprintf("Machine of %d, %.40q", n, name), busy(t, 2048), machine(name, n), api.BadNumber)
		}
	}
}

func TestTheGreatestMachines(t *testing.T) {
	f := greatest(t)
	for at := range f.Vm.Mem.B[1368:] {
		f.Vm.Mem.B[1368+at] = 0xee
	}
	for _, n := range []int{100, 255, 256} {
		f.Vm.Here = 1371
		l := machineOf(n)
		check(t, l.what, f, l.of("word"), l.want(f, "word"), api.OK)
	}
	f.Vm.Here = 65536 - 260*8
	check(t, "up to the end", f, machine("word", 256), machineOf(256).want(f, "word"), api.OK)
	f.Vm.Here++
	refused(t, "a byte less", f, machine("word", 256), api.Space)
	refused(t, "257", f, machine("word", 257), api.BadNumber)
}
