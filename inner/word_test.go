package inner

import (
	"fmt"
	"slices"
	"testing"

	"detent/api"
	"detent/prim"
	"detent/vm"
)

// Codes, as the document numbers them.
const (
	rUnder    = -6
	address   = -9
	onlyComp  = -14
	align     = -23
	badNumber = -24
	noBody    = -31
)

// numbers are numbers of all kinds.
func numbers() []int {
	return []int{0, 1, -1, 7, 8, 24, 216, 1368, 1440, 1441, 2040, 2048, 1 << 32, least, least + 1, most, most - 7}
}

// Where the next cell isn't there, the code that tells of it.
func placesWithoutACell() map[int]api.Throw {
	return map[int]api.Throw{
		2048: address, 2041: address, 2047: address, 2049: address, 2056: address, -8: address, -1: address, least: address, least + 8: address, most: address, most - 7: address, 1 << 32: address,
		1: align, 4: align, 1404: align, 1409: align, 2039: align,
	}
}

// P12.2, words that are laid

// goCases are of (exit), (lit), (branch), (0branch), (halt).
func goCases() []given {
	l := []given{
		{name: "(halt)", over: true}, {name: "(halt)", ip: most, over: true}, {name: "(halt)", ip: 2048, over: true},
		{name: "(lit)", on: lay(16, 96), ip: 16, dOut: s(96), then: goTo(24)}, {name: "(lit)", on: lay(2040, 3), ip: 2040, dOut: s(3), then: goTo(2048)},
		{name: "(branch)", on: lay(2040, 3), ip: 2040, then: goTo(3)}, {name: "(0branch)", on: lay(2040, 3), ip: 2040, d: s(0), then: goTo(3)},
	}
	for _, n := range numbers() {
		l = append(l,
			given{name: "(exit)", r: s(n), then: goTo(n)}, given{name: "(exit)", ip: least, r: s(n), then: goTo(n)},
			given{name: "(lit)", on: lay(1408, n), dOut: s(n), then: goTo(1416)},
			given{name: "(branch)", on: lay(1408, n), then: goTo(n)},
			given{name: "(0branch)", on: lay(1408, n), d: s(0), then: goTo(n)},
		)
		if n != 0 {
			l = append(l, given{name: "(0branch)", on: lay(1408, 0), d: s(n), then: goTo(1416)})
		}
	}
	for ip, code := range placesWithoutACell() {
		l = append(l,
			given{name: "(lit)", ip: ip, code: code}, given{name: "(branch)", ip: ip, code: code}, given{name: "(0branch)", ip: ip, d: s(0), code: code},
			// The next cell isn't asked for.
			given{name: "(0branch)", ip: ip, d: s(1), then: goTo(ip + 8)}, given{name: "(0branch)", ip: ip, d: s(-1), then: goTo(ip + 8)},
		)
	}
	return l
}

func TestWordsThatGoOn(t *testing.T) { checkAll(t, goCases()) }

// frames turn a run so that it has these.
func frames(f ...api.Frame) func(*api.Run) { return func(r *api.Run) { r.Vm.F = f } }

// manyFrames turn a run so that it has so many.
func manyFrames(n int) func(*api.Run) {
	return func(r *api.Run) {
		r.Vm.F = make([]api.Frame, n)
		for i := range r.Vm.F {
			r.Vm.F[i] = api.Frame{D: i, R: i + 1, Ip: 8 * i}
		}
	}
}

// caughtCases are of (caught), of which the frames are told.
func caughtCases() []given {
	a, b := api.Frame{D: 5, R: 6, Ip: 1400}, api.Frame{D: 0, R: 256, Ip: -77}
	return []given{
		{name: "(caught)", on: frames(), code: rUnder},
		{name: "(caught)", on: frames(a), dOut: s(0), then: all(frames(), goTo(1400))},
		{name: "(caught)", on: frames(b), dOut: s(0), then: all(frames(), goTo(-77))},
		{name: "(caught)", on: frames(a, b), dOut: s(0), then: all(frames(a), goTo(-77))},
		{name: "(caught)", on: frames(b, a), dOut: s(0), then: all(frames(b), goTo(1400))},
		{name: "(caught)", on: manyFrames(64), dOut: s(0), then: all(manyFrames(63), goTo(8*63))},
	}
}

func TestCaught(t *testing.T) { checkAll(t, caughtCases()) }

// made turns a run so that the last word that was made stands there, of that kind.
func made(last, kind int) func(*api.Run) {
	return func(r *api.Run) {
		r.Vm.Last = last
		cells(&r.Vm, last, kind)
	}
}

// last turns which word was made last.
func last(n int) func(*api.Run) { return func(r *api.Run) { r.Vm.Last = n } }

// deedAt tells what (does) stores.
func deedAt(last, ip int) func(*api.Run) {
	return func(r *api.Run) {
		stored(&r.Vm, last, 259)
		stored(&r.Vm, last+8, ip)
	}
}

func doesCases() []given {
	l := []given{
		{name: "(does)", r: s(1440), on: made(1376, 257), then: all(deedAt(1376, 1408), goTo(1440))},
		{name: "(does)", r: s(least), on: made(1376, 259), then: all(deedAt(1376, 1408), goTo(least))},
		{name: "(does)", ip: -77, r: s(0), on: made(2032, 257), then: all(deedAt(2032, -77), goTo(0))},
		{name: "(does)", ip: most, r: s(8), on: made(8, 257), then: all(deedAt(8, most), goTo(8))},
		{name: "(does)", r: s(7), on: made(2040, 257), code: address}, {name: "(does)", r: s(7), on: made(2040, 259), code: address},
		{name: "(does)", r: s(7), on: made(0, 257), code: noBody}, {name: "(does)", r: s(7), on: made(0, 259), code: noBody},
	}
	for _, kind := range []int{0, 1, 10, 22, 23, 129, 130, 255, 256, 258, 260, 261, 300, 336, 337, -1, 1<<32 + 257, least, most} {
		l = append(l, given{name: "(does)", r: s(7), on: made(1376, kind), code: noBody}, given{name: "(does)", r: s(7), on: made(2040, kind), code: noBody})
	}
	for _, n := range []int{0, 1, 1377, 2041, 2048, 2056, -8, -1, least, most, 1 << 32} {
		l = append(l, given{name: "(does)", r: s(7), on: last(n), code: noBody})
	}
	for i := range l {
		l[i].late = true
	}
	return l
}

func TestDoes(t *testing.T) { checkAll(t, doesCases()) }

func strCases() []given {
	str := func(ip, n, behind int) given {
		return given{name: "(str)", ip: ip, on: lay(ip, n), dOut: s(ip+8, n), then: goTo(behind)}
	}
	l := []given{
		str(1408, 0, 1416), str(1408, 1, 1424), str(1408, 5, 1424), str(1408, 7, 1424), str(1408, 8, 1424), str(1408, 9, 1432), str(1408, 16, 1432), str(1408, 100, 1520),
		str(1408, 625, 2048), str(1408, 631, 2048), str(1408, 632, 2048), str(2040, 0, 2048), str(2032, 8, 2048), str(2032, 1, 2048), str(2032, 0, 2040), str(8, 2032, 2048), str(16, 0, 24),
	}
	for _, n := range []int{-1, -8, -1424, 633, 640, 2048, 1 << 32, least, least + 1, most, most - 7, most - 1416, most - 1415} {
		l = append(l, given{name: "(str)", on: lay(1408, n), code: address})
	}
	for _, n := range []int{1, 8, -1, -2048, least, most} {
		l = append(l, given{name: "(str)", ip: 2040, on: lay(2040, n), code: address})
	}
	for ip, code := range placesWithoutACell() {
		l = append(l, given{name: "(str)", ip: ip, code: code})
	}
	return l
}

func TestStr(t *testing.T) { checkAll(t, strCases()) }

// P12.2, loops

func beginLoopCases() []given {
	var l []given
	for _, a := range numbers() {
		for _, b := range []int{a, 3, a + 1} {
			l = append(l, given{name: "(do)", d: s(a, b), rOut: s(a, b)})
			if a == b {
				l = append(l, given{name: "(?do)", d: s(a, b), on: lay(1408, 1500), then: goTo(1500)})
			} else {
				l = append(l, given{name: "(?do)", d: s(a, b), on: lay(1408, 1500), rOut: s(a, b), then: goTo(1416)})
			}
		}
	}
	for ip, code := range placesWithoutACell() {
		l = append(l,
			given{name: "(do)", ip: ip, d: s(10, 3), rOut: s(10, 3)},
			given{name: "(?do)", ip: ip, d: s(3, 3), code: code},
			// The next cell isn't asked for.
			given{name: "(?do)", ip: ip, d: s(10, 3), rOut: s(10, 3), then: goTo(ip + 8)},
		)
	}
	return append(l, given{name: "(?do)", d: s(5, 5), on: lay(1408, most), then: goTo(most)}, given{name: "(?do)", ip: 2040, d: s(5, 5), on: lay(2040, -1), then: goTo(-1)})
}

func TestWordsThatLoopsBeginWith(t *testing.T) { checkAll(t, beginLoopCases()) }

// again is a loop that goes on with the index i.
func again(n, l, was, i int) given {
	return given{name: "(+loop)", d: s(n), r: s(l, was), rOut: s(l, i), on: lay(1408, 1376), then: goTo(1376)}
}

// over is a loop that is over.
func over(n, l, was int) given {
	return given{name: "(+loop)", d: s(n), r: s(l, was), on: lay(1408, 1376), then: goTo(1416)}
}

// byOne is the same of (loop).
func byOne(g given) given {
	g.name, g.d = "(loop)", nil
	return g
}

func endLoopCases() []given {
	l := []given{
		again(1, 10, 3, 4), again(1, 10, 8, 9), over(1, 10, 9), again(1, 10, 10, 11), again(1, 10, 11, 12), again(1, 0, -2, -1), over(1, 0, -1), again(1, 0, 0, 1), again(1, -5, -7, -6), over(1, -5, -6),
		again(1, least, 0, 1), over(1, least, most), again(1, least, least, least+1), again(1, most, least, least+1), again(1, most, most-2, most-1), over(1, most, most-1), again(1, 5, most, least), again(1, most, most, least), again(1, least+1, most, least), over(1, least+1, least),
	}
	for i := range l {
		l = append(l, byOne(l[i]))
	}
	l = append(l,
		again(2, 10, 3, 5), again(2, 10, 7, 9), over(2, 10, 8), over(2, 10, 9), again(2, 10, 10, 12), over(7, 10, 3), again(6, 10, 3, 9), over(100, 10, 3),
		again(0, 10, 3, 3), again(0, 10, 10, 10), again(0, 10, 9, 9), again(0, 10, 11, 11), again(0, least, most, most),
		again(-1, 0, 5, 4), again(-1, 0, 1, 0), over(-1, 0, 0), again(-1, 0, -1, -2), again(-1, 10, 9, 8), over(-1, 10, 10), again(-2, 0, 2, 0), over(-2, 0, 1), over(-5, 0, 4), again(-5, 0, 5, 0),
		again(-1, most, least, most), again(-1, 3, least, most), over(-1, least, least), over(-1, most, most),
		over(most, 0, -1), over(most, 0, -most), again(most, 0, least, -1), again(most, 0, 0, most), again(most, 0, 1, least), over(most, 1, 0),
		over(least, 0, 0), over(least, 0, most), again(least, 0, -1, most), again(least, 0, least, 0), over(least, 5, 5), again(least, 5, 4, least+4),
	)
	for _, name := range []string{"(loop)", "(+loop)"} {
		d := s(1)
		if name == "(loop)" {
			d = nil
		}
		for ip, code := range placesWithoutACell() {
			l = append(l,
				given{name: name, ip: ip, d: d, r: s(10, 3), code: code},
				// The next cell isn't asked for.
				given{name: name, ip: ip, d: d, r: s(10, 9), then: goTo(ip + 8)},
			)
		}
		for _, n := range numbers() {
			l = append(l, given{name: name, d: d, r: s(10, 3), rOut: s(10, 4), on: lay(1408, n), then: goTo(n)})
		}
	}
	return l
}

func TestWordsThatLoopsEndWith(t *testing.T) { checkAll(t, endLoopCases()) }

// P12.2, words by their names

// withFrame tells a frame more, of what there is.
func withFrame(ip int) func(*api.Run) {
	return func(r *api.Run) {
		r.Vm.F = append(slices.Clone(r.Vm.F), api.Frame{D: len(r.Vm.D), R: len(r.Vm.R), Ip: ip})
	}
}

func handOnCases() []given {
	l := []given{
		{name: "CATCH", d: s(216), on: manyFrames(63), then: all(withFrame(1408), goTo(24), doNext(216))},
		{name: "CATCH", d: s(216), on: manyFrames(64), code: -5},
		{name: "CATCH", d: s(216), on: manyFrames(0), then: all(withFrame(1408), goTo(24), doNext(216))},
		{name: "CATCH", ip: least, d: s(216), then: all(withFrame(least), goTo(24), doNext(216))},
		{name: "EXECUTE", ip: most, d: s(216), then: doNext(216)}, {name: "EXECUTE", d: s(216), on: manyFrames(64), then: doNext(216)},
		{name: "THROW", ip: most, d: s(0)}, {name: "THROW", d: s(0), on: manyFrames(64)},
	}
	for _, n := range append(numbers(), -4, -256, -259, 256, 300) {
		l = append(l, given{name: "EXECUTE", d: s(n), then: doNext(n)}, given{name: "CATCH", d: s(n), then: all(withFrame(1408), goTo(24), doNext(n))}, given{name: "THROW", d: s(n), code: api.Throw(n)})
	}
	return l
}

func TestWordsThatHandOn(t *testing.T) { checkAll(t, handOnCases()) }

func turnCases() []given {
	l := []given{
		{name: "J", r: s(1, 2, 3), rOut: s(1, 2, 3), dOut: s(1)}, {name: "J", r: s(least, 0, 0), rOut: s(least, 0, 0), dOut: s(least)},
		{name: "UNLOOP", r: s(1, 2)}, {name: "2>R", d: s(1, 2), rOut: s(1, 2)}, {name: "2R>", r: s(1, 2), dOut: s(1, 2)},
		{name: ">R", ip: most, d: s(5), rOut: s(5)}, {name: "R>", ip: least, r: s(5), dOut: s(5)},
	}
	for _, n := range numbers() {
		l = append(l,
			given{name: ">R", d: s(n), rOut: s(n)}, given{name: "R>", r: s(n), dOut: s(n)}, given{name: "R@", r: s(n), rOut: s(n), dOut: s(n)}, given{name: "I", r: s(n), rOut: s(n), dOut: s(n)},
			given{name: "2>R", d: s(n, 4), rOut: s(n, 4)}, given{name: "2R>", r: s(4, n), dOut: s(4, n)},
		)
	}
	return l
}

func TestWordsThatTurnBothStacks(t *testing.T) { checkAll(t, turnCases()) }

// I, R@ and J tell one cell alone, whatever lies around it.
func TestWordsThatLookAtR(t *testing.T) {
	for name, want := range map[string]int{"I": 4, "R@": 4, "J": 2} {
		v := busy(t)
		v.D, v.R = s(9), s(1, 2, 3, 4)
		r := api.Run{Vm: v, Ip: 1408, W: place(t, name), Do: true, Fuel: 1}
		got, _, code := Step(r)
		if code != api.OK || !slices.Equal(got.Vm.D, s(9, want)) || !slices.Equal(got.Vm.R, s(1, 2, 3, 4)) {
			t.Error(name, got.Vm.D, got.Vm.R, code)
		}
	}
}

// Each word of the table has a case in which it has no code.
func TestEachWordHasCases(t *testing.T) {
	went := map[string]bool{}
	for _, g := range slices.Concat(goCases(), caughtCases(), doesCases(), strCases(), beginLoopCases(), endLoopCases(), handOnCases(), turnCases()) {
		went[g.name] = went[g.name] || g.code == api.OK
	}
	for name, n := range numbersByHand() {
		if n <= 22 && !went[name] {
			t.Errorf("%s has no case", name)
		}
		if vm.Names()[n] != name || prim.Does(n) != (n > 22) {
			t.Errorf("%d is %s, not %s", n, vm.Names()[n], name)
		}
	}
	if len(went) != 23 {
		t.Error(len(went))
	}
}

// P12.2, words of each kind

func fieldCases() []given {
	var l []given
	for _, xt := range []int{1504, 1368, 2032, 2040, 8, 2024} {
		l = append(l, given{xt: xt, on: lay(xt, 256), rOut: s(1408), then: goTo(xt + 8)}, given{xt: xt, on: lay(xt, 257), dOut: s(xt + 16)})
	}
	for _, ip := range []int{2048, -8, 1401, least, most} {
		l = append(l,
			given{xt: 1504, ip: ip, on: lay(1504, 256), rOut: s(ip), then: goTo(1512)}, given{xt: 1504, ip: ip, on: lay(1504, 257), dOut: s(1520)},
			given{xt: 1504, ip: ip, on: lay(1504, 258, 1520, 6), dOut: s(6)}, given{xt: 1504, ip: ip, on: lay(1504, 259, 1512, 1376), dOut: s(1520), rOut: s(ip), then: goTo(1376)},
			given{xt: 1504, ip: ip, on: lay(1504, 260, 1520, 0, 1528, 1, 1536, 216), then: doNext(216)},
		)
	}
	for _, n := range numbers() {
		l = append(l, given{xt: 1504, on: lay(1504, 258, 1512, 5, 1520, n, 1528, 5), dOut: s(n)}, given{xt: 1504, on: lay(1504, 259, 1512, n, 1520, 5), dOut: s(1520), rOut: s(1408), then: goTo(n)})
	}
	return append(l,
		given{xt: 2024, on: lay(2024, 258, 2040, 9), dOut: s(9)}, given{xt: 2032, on: lay(2032, 258), code: address}, given{xt: 2040, on: lay(2040, 258), code: address},
		given{xt: 2032, on: lay(2032, 259, 2040, 9), dOut: s(2048), rOut: s(1408), then: goTo(9)}, given{xt: 2040, on: lay(2040, 259), code: address},
	)
}

func TestWordsThatWereMade(t *testing.T) { checkAll(t, fieldCases()) }

// states are cases of a machine of states that stands at 1504: its state, how many it has, and then their cells.
func states(n ...int) []int {
	out := s(1504, 260)
	for i, x := range n {
		out = append(out, 1520+8*i, x)
	}
	return out
}

func stateCases() []given {
	at := func(n ...int) func(*api.Run) { return lay(states(n...)...) }
	return []given{
		{xt: 1504, on: at(0, 1, 216), then: doNext(216)}, {xt: 1504, on: at(0, 3, 216, 224, 232), then: doNext(216)}, {xt: 1504, on: at(1, 3, 216, 224, 232), then: doNext(224)}, {xt: 1504, on: at(2, 3, 216, 224, 232), then: doNext(232)},
		{xt: 1504, on: at(0, 3, 0, 224, 232)}, {xt: 1504, on: at(1, 3, 216, 0, 232)}, {xt: 1504, on: at(2, 3, 216, 224, 0)},
		{xt: 1504, on: at(0, 1, -1), then: doNext(-1)}, {xt: 1504, on: at(0, 1, least), then: doNext(least)}, {xt: 1504, on: at(0, 1, 5), then: doNext(5)},
		{xt: 1504, on: at(3, 3, 216, 224, 232, 240), code: badNumber}, {xt: 1504, on: at(-1, 3, 216), code: badNumber}, {xt: 1504, on: at(0, 0, 216), code: badNumber}, {xt: 1504, on: at(1, 1, 216, 224), code: badNumber},
		{xt: 1504, on: at(0, -1, 216), code: badNumber}, {xt: 1504, on: at(0, least, 216), code: badNumber}, {xt: 1504, on: at(least, least, 216), code: badNumber}, {xt: 1504, on: at(least, 5, 216), code: badNumber}, {xt: 1504, on: at(most, least, 216), code: badNumber}, {xt: 1504, on: at(most, most, 216), code: badNumber}, {xt: 1504, on: at(-3, -1, 216), code: badNumber},
		// The place of the state's cell: it goes round, and may be none.
		{xt: 1504, on: at(1<<61, 1<<62, 216, 224), then: doNext(216)}, {xt: 1504, on: at(1<<61+1, most, 216, 224), then: doNext(224)}, {xt: 1504, on: at(1<<60, 1<<62, 216), code: address}, {xt: 1504, on: at(64, 65, 216), code: address},
		// So many states up, 8 bytes each, it goes round to the state itself.
		{xt: 1504, on: at(most-1, most, 216), then: doNext(most - 1)},
		{xt: 1504, on: all(at(63, 64), lay(2040, 216)), then: doNext(216)},
		// Both cells, and the state's, are fetched in this order.
		{xt: 2016, on: lay(2016, 260, 2032, 0, 2040, 1), code: address}, {xt: 2016, on: lay(2016, 260, 2032, 1, 2040, 1), code: badNumber}, {xt: 2024, on: lay(2024, 260, 2040, -1), code: address}, {xt: 2032, on: lay(2032, 260), code: address}, {xt: 2040, on: lay(2040, 260), code: address},
		{xt: 2008, on: lay(2008, 260, 2024, 0, 2032, 1, 2040, 99), then: doNext(99)}, {xt: 2008, on: lay(2008, 260, 2024, 1, 2032, 2, 2040, 99), code: address},
	}
}

func TestMachinesOfStates(t *testing.T) { checkAll(t, stateCases()) }

func kindCases() []given {
	var l []given
	for n := 300; n <= 336; n++ {
		l = append(l, given{xt: 1504, on: lay(1504, n), code: onlyComp}, given{xt: 1072 + 8*(n-300), code: onlyComp})
	}
	for _, n := range []int{130, 131, 255, 261, 262, 299, 337, 338, -1, -256, 1<<32 + 23, 1<<32 + 256, least, least + 256, most} {
		l = append(l, given{xt: 1504, on: lay(1504, n), code: address}, given{xt: 2040, on: lay(2040, n), code: address})
	}
	for xt, code := range placesWithoutACell() {
		l = append(l, given{xt: xt, code: code})
	}
	return l
}

func TestWordsThatThereArentAndSpecials(t *testing.T) { checkAll(t, kindCases()) }

// P12.2: a primitive of chapter 11 is done as that chapter says, wherever its code field stands.
func TestPrimitivesOfChapter11(t *testing.T) {
	codes := map[api.Throw]int{}
	for n := 23; n <= 129; n++ {
		for _, d := range [][]int{nil, {0}, {5}, {1400}, {7, 2}, {7, 0}, {5, 1, 2}, {5, 1400, 3}, {5, 1, 2, 3}, {1, 2, 3, 4, 5}, {5, 6, 1400}, {0, 1, 1368}} {
			for _, f := range [][]api.Frame{nil, {{D: 1, R: 1, Ip: 1400}}} {
				for _, xt := range []int{32 + 8*n, 1504} {
					v := busy(t)
					v.D, v.F = d, f
					cells(&v, 1504, n, 1400, xt)
					for _, r := range []api.Run{{Vm: v, Ip: 1400, W: 5, Fuel: 9}, {Vm: v, Ip: 1408, W: xt, Do: true, Fuel: 9}} {
						want := deepRun(r)
						want.Ip, want.Fuel = 1408, 8
						if r.Do {
							want.W, want.Do = 0, false
						}
						var code api.Throw
						if want.Vm, code = prim.Do(v, n); code != api.OK {
							want, code = handedByHand(want, code)
						}
						codes[code]++
						check(t, fmt.Sprint(n, " of ", d), r, want, false, code)
					}
				}
			}
		}
	}
	for _, code := range []api.Throw{0, -1, -4, -8, -9, -10, -23, -24, -31, -259} {
		if codes[code] == 0 {
			t.Errorf("code %d never came", code)
		}
	}
}
