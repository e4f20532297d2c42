package inner

import (
	"fmt"
	"slices"
	"testing"

	"detent/api"
)

// P12.2, fuel

func TestStepWithoutFuel(t *testing.T) {
	dup := place(t, "DUP")
	for _, v := range []api.Vm{plain(t), busy(t), framed(busy(t))} {
		cells(&v, 1400, dup, 1408, 5)
		for _, fuel := range []int{0, -1, -2, least, least + 1} {
			for _, r := range []api.Run{
				{Vm: v, Ip: 1400}, {Vm: v, Ip: 1400, W: 77}, {Vm: v, Ip: 1400, W: dup, Do: true}, {Vm: v, Ip: -1}, {Vm: v, Ip: 1401, W: 1401, Do: true}, {Vm: v, Ip: 1408}, {Vm: v, W: place(t, "(halt)"), Do: true},
			} {
				r.Fuel = fuel
				// No frame is asked: it is as if nothing had been done.
				check(t, fmt.Sprint("with fuel of ", fuel), r, r, false, -256)
			}
		}
	}
}

func TestStepTakesOneOfFuel(t *testing.T) {
	v := busy(t)
	v.D = s(4)
	cells(&v, 1400, place(t, "DUP"), 1408, 5)
	for _, fuel := range []int{1, 2, 10, 1 << 40, most} {
		want := api.Run{Vm: deep(v), Ip: 1408, Fuel: fuel - 1}
		want.Vm.D = s(4, 4)
		check(t, "by a cell", api.Run{Vm: v, Ip: 1400, Fuel: fuel}, want, false, api.OK)
		want.Ip = -9
		check(t, "by W", api.Run{Vm: v, Ip: -9, W: place(t, "DUP"), Do: true, Fuel: fuel}, want, false, api.OK)
		// A code takes one, too.
		check(t, "of a cell that is no word", api.Run{Vm: v, Ip: 1408, Fuel: fuel}, api.Run{Vm: v, Ip: 1416, Fuel: fuel - 1}, false, -23)
		check(t, "of no cell", api.Run{Vm: v, Ip: 2048, Fuel: fuel}, api.Run{Vm: v, Ip: 2048, Fuel: fuel - 1}, false, -9)
	}
}

// What is thrown as a word's code is handed to a frame, also if its number is that of no fuel.
func TestFuelThatIsThrown(t *testing.T) {
	v := framed(busy(t))
	v.D = s(1, 2, -256)
	want := api.Run{Vm: deep(v), Ip: -5, Fuel: 0}
	want.Vm.F, want.Vm.D, want.Vm.R = v.F[:1], s(1, 2, -256), s(21)
	check(t, "THROW of -256", api.Run{Vm: v, Ip: 1400, W: place(t, "THROW"), Do: true, Fuel: 1}, want, false, api.OK)
}

// P12.2, the next cell

func TestStepByTheNextCell(t *testing.T) {
	for _, at := range []int{0, 8, 16, 24, 1368, 1400, 2032, 2040} {
		v := busy(t)
		cells(&v, at, place(t, "DUP"))
		for _, w := range []int{0, 77, -1, least} {
			want := api.Run{Vm: deep(v), Ip: at + 8, W: w, Fuel: 2}
			want.Vm.D = s(11, -12, 13, 13)
			check(t, fmt.Sprint("at ", at, ", W ", w), api.Run{Vm: v, Ip: at, W: w, Fuel: 3}, want, false, api.OK)
		}
	}
}

// Where no cell is, Ip stays; W and Do are told to be nothing.
func TestStepWhereNoCellIs(t *testing.T) {
	for at, code := range placesWithoutACell() {
		v := busy(t)
		for _, w := range []int{0, 77, place(t, "DUP")} {
			check(t, fmt.Sprint("at ", at), api.Run{Vm: v, Ip: at, W: w, Fuel: 3}, api.Run{Vm: v, Ip: at, Fuel: 2}, false, code)
			a := framed(v)
			want := api.Run{Vm: deep(a), Ip: -5, Fuel: 2}
			want.Vm.D, want.Vm.R, want.Vm.F = s(11, -12, int(code)), s(21), a.F[:1]
			check(t, fmt.Sprint("at ", at, " with frames"), api.Run{Vm: a, Ip: at, W: w, Fuel: 3}, want, false, api.OK)
		}
	}
}

// A cell that leads to no code field: Ip is behind the cell.
func TestStepOfACellThatIsNoWord(t *testing.T) {
	for n, code := range map[int]api.Throw{2048: -9, -1: -9, -8: -9, 2041: -9, least: -9, most: -9, 1: -23, 217: -23, 1501: -23, 1504: -9} {
		for _, at := range []int{1368, 1400, 2040} {
			v := busy(t)
			cells(&v, at, n)
			check(t, fmt.Sprint(n, " at ", at), api.Run{Vm: v, Ip: at, W: 7, Fuel: 3}, api.Run{Vm: v, Ip: at + 8, Fuel: 2}, false, code)
		}
	}
}

// A word that is done by W leaves Ip as it is, also where no cell is, and also with a code.
func TestStepByW(t *testing.T) {
	for _, ip := range []int{16, 1400, 2048, 1401, -1, least, most} {
		v := busy(t)
		want := api.Run{Vm: deep(v), Ip: ip, Fuel: 2}
		want.Vm.D = s(11, -12, 13, 13)
		check(t, fmt.Sprint("DUP, Ip ", ip), api.Run{Vm: v, Ip: ip, W: place(t, "DUP"), Do: true, Fuel: 3}, want, false, api.OK)
		for w, code := range map[int]api.Throw{0: -9, 1401: -23, -8: -9, 2048: -9, place(t, "ABORT"): -1, 1072: -14} {
			a := deep(v)
			cells(&a, 0, 131)
			check(t, fmt.Sprint(w, ", Ip ", ip), api.Run{Vm: a, Ip: ip, W: w, Do: true, Fuel: 3}, api.Run{Vm: a, Ip: ip, Fuel: 2}, false, code)
		}
	}
}

// P12.2, a code and a frame

// caughtBy is a run that comes on ABORT, of a machine with so many cells on both stacks, with room for so many, and with one frame.
func caughtBy(t *testing.T, d, r []int, data, ret int, f api.Frame) api.Run {
	t.Helper()
	v := busy(t)
	v.D, v.R, v.Conf.Data, v.Conf.Ret = d, r, data, ret
	v.F = []api.Frame{{D: 1, R: 1, Ip: 1}, f}
	cells(&v, 1400, place(t, "ABORT"))
	return api.Run{Vm: v, Ip: 1400, W: 7, Fuel: 3}
}

func TestACodeIsHandedToTheLastFrame(t *testing.T) {
	for i, x := range []struct {
		d, r         []int
		data, ret    int
		f            api.Frame
		wantD, wantR []int
	}{
		{s(1, 2, 3), s(4, 5, 6), 10, 10, api.Frame{D: 3, R: 3, Ip: 1500}, s(1, 2, 3, -1), s(4, 5, 6)},
		{s(1, 2, 3), s(4, 5, 6), 10, 10, api.Frame{D: 2, R: 1, Ip: 1500}, s(1, 2, -1), s(4)},
		{s(1, 2, 3), s(4, 5, 6), 10, 10, api.Frame{D: 0, R: 0, Ip: 1500}, s(-1), nil},
		{s(1, 2, 3), s(4, 5, 6), 10, 10, api.Frame{D: 5, R: 4, Ip: 1500}, s(1, 2, 3, 0, 0, -1), s(4, 5, 6, 0)},
		{nil, nil, 10, 10, api.Frame{D: 2, R: 2, Ip: 1500}, s(0, 0, -1), s(0, 0)},
		{nil, nil, 10, 10, api.Frame{Ip: most}, s(-1), nil},
		{s(1, 2, 3), s(4, 5, 6), 3, 3, api.Frame{D: 3, R: 3, Ip: least}, s(1, 2, -1), s(4, 5, 6)},
		{s(1, 2, 3), s(4, 5, 6), 3, 3, api.Frame{D: 2, R: 2, Ip: 7}, s(1, 2, -1), s(4, 5)},
		{s(1, 2, 3), s(4, 5, 6), 4, 4, api.Frame{D: 4, R: 4, Ip: 7}, s(1, 2, 3, -1), s(4, 5, 6, 0)},
		{s(1, 2, 3), s(4, 5, 6), 5, 5, api.Frame{D: 256, R: 256, Ip: 7}, s(1, 2, 3, 0, -1), s(4, 5, 6, 0, 0)},
		{s(1), s(4), 1, 1, api.Frame{D: 256, R: 256, Ip: 7}, s(-1), s(4)},
		{nil, nil, 1, 1, api.Frame{D: 1, R: 1, Ip: 7}, s(-1), s(0)},
		{s(1), nil, 2, 1, api.Frame{D: 1, R: 2, Ip: 7}, s(1, -1), s(0)},
		{s(1), nil, 2, 1, api.Frame{D: 2, R: 0, Ip: 7}, s(1, -1), nil},
	} {
		r := caughtBy(t, x.d, x.r, x.data, x.ret, x.f)
		want := deepRun(r)
		want.Vm.D, want.Vm.R, want.Vm.F = x.wantD, x.wantR, r.Vm.F[:1]
		want.Ip, want.W, want.Fuel = x.f.Ip, 0, 2
		check(t, fmt.Sprint("case ", i), r, want, false, api.OK)
	}
}

func TestACodeIsHandedToFramesOfTheGreatestDepth(t *testing.T) {
	r := caughtBy(t, s(7), s(8), 256, 256, api.Frame{D: 256, R: 256, Ip: 1500})
	want := deepRun(r)
	want.Vm.D, want.Vm.R, want.Vm.F = make([]int, 256), make([]int, 256), r.Vm.F[:1]
	want.Vm.D[0], want.Vm.R[0], want.Vm.D[255] = 7, 8, -1
	want.Ip, want.W, want.Fuel = 1500, 0, 2
	check(t, "both of 256", r, want, false, api.OK)
}

// Each code takes one frame; without any it is the answer.
func TestFramesInOneAnother(t *testing.T) {
	v := busy(t)
	v.D, v.R = s(1, 2, 3), s(4, 5, 6)
	v.F = []api.Frame{{D: 0, R: 1, Ip: 1456}, {D: 1, R: 2, Ip: 1480}, {D: 4, R: 3, Ip: 1432}}
	// The cells there are no words: a code again each time.
	for i, want := range []struct {
		ip   int
		d, r []int
		code api.Throw
	}{{1432, s(1, 2, 3, 0, -23), s(4, 5, 6), 0}, {1480, s(1, -23), s(4, 5), 0}, {1456, s(-23), s(4), 0}, {1464, s(-23), s(4), -23}} {
		cells(&v, 1400, 1, 1432, 1, 1456, 1, 1480, 1)
		ip := 1400
		if i > 0 {
			ip = []int{1432, 1480, 1456}[i-1]
		}
		r := api.Run{Vm: v, Ip: ip, Fuel: 9}
		got, over, code := Step(r)
		behind := deepRun(r)
		behind.Vm.D, behind.Vm.R, behind.Vm.F = want.d, want.r, v.F[:max(len(v.F)-1, 0)]
		behind.Ip, behind.Fuel = want.ip, 8
		expect(t, fmt.Sprint("code ", i), got, over, code, behind, false, want.code)
		v = got.Vm
	}
}

// What a word did ahead of its code is gone, also with a frame: but for both stacks, Ip, and the frame.
func TestACodeUndoesItsWord(t *testing.T) {
	v := framed(busy(t))
	v.F = []api.Frame{{D: 9, R: 9, Ip: 1500}}
	v.Last, v.R = 1504, nil
	cells(&v, 1504, 257)
	want := api.Run{Vm: deep(v), Ip: 1500, Fuel: 4}
	want.Vm.D, want.Vm.R, want.Vm.F = s(11, -12, 13, 0, 0, 0, 0, 0, 0, -6), make([]int, 9), nil
	check(t, "(does) without R", api.Run{Vm: v, Ip: 1400, W: place(t, "(does)"), Do: true, Fuel: 5}, want, false, api.OK)
	v.F = nil
	check(t, "(does) without R and frames", api.Run{Vm: v, Ip: 1400, W: place(t, "(does)"), Do: true, Fuel: 5}, api.Run{Vm: v, Ip: 1400, Fuel: 4}, false, -6)
}

// (caught) on a full stack: Over, which is handed to the very frame that it would have taken.
func TestCaughtOnAFullStack(t *testing.T) {
	v := busy(t)
	v.D, v.Conf.Data = s(1, 2, 3), 3
	v.F = []api.Frame{{D: 1, R: 0, Ip: 1400}, {D: 2, R: 1, Ip: 1500}}
	want := api.Run{Vm: deep(v), Ip: 1500, Fuel: 0}
	want.Vm.D, want.Vm.R, want.Vm.F = s(1, 2, -3), s(21), v.F[:1]
	check(t, "(caught)", api.Run{Vm: v, Ip: 1392, W: place(t, "(caught)"), Do: true, Fuel: 1}, want, false, api.OK)
	v.F = nil
	check(t, "(caught) without a frame", api.Run{Vm: v, Ip: 1392, W: place(t, "(caught)"), Do: true, Fuel: 1}, api.Run{Vm: v, Ip: 1392}, false, -6)
}

// (halt) is no code: no frame is asked, and nothing but fuel and Ip is other than it was.
func TestHaltAsksNoFrame(t *testing.T) {
	v := framed(busy(t))
	cells(&v, 1400, place(t, "(halt)"))
	check(t, "(halt)", api.Run{Vm: v, Ip: 1400, W: 7, Fuel: 3}, api.Run{Vm: v, Ip: 1408, W: 7, Fuel: 2}, true, api.OK)
	check(t, "(halt) by W", api.Run{Vm: v, Ip: 1400, W: place(t, "(halt)"), Do: true, Fuel: 1}, api.Run{Vm: v, Ip: 1400}, true, api.OK)
}

// Which code comes first, where several could, by hand.
func TestWhichCodeComesFirst(t *testing.T) {
	v := busy(t)
	v.D, v.R, v.Conf.Data, v.Conf.Ret = s(1, 2), s(3, 4), 2, 2
	cells(&v, 1504, 259, 1512, 1600)
	lacks := func(d, r []int, data, ret int) func(*api.Vm) {
		return func(v *api.Vm) { v.D, v.R, v.Conf.Data, v.Conf.Ret = d, r, data, ret }
	}
	for i, x := range []struct {
		name string
		ip   int
		on   func(*api.Vm)
		code api.Throw
	}{
		{"(+loop)", 2048, lacks(nil, s(3), 2, 2), -4}, {"(+loop)", 2048, lacks(s(1), s(3), 2, 2), -6}, {"(+loop)", 2048, lacks(s(1), s(8, 3), 2, 2), -9}, {"(loop)", 1401, lacks(nil, nil, 2, 2), -6}, {"(loop)", 1401, lacks(nil, s(8, 3), 2, 2), -23},
		{"(?do)", 2048, lacks(s(1), s(3, 4), 2, 2), -4}, {"(?do)", 2048, lacks(s(1, 1), s(3, 4), 2, 2), -9}, {"(?do)", 2048, lacks(s(1, 2), s(3, 4), 2, 2), -5}, {"(?do)", 2048, lacks(s(1, 2), s(3), 2, 2), -5},
		{"(do)", 2048, lacks(s(1), s(3, 4), 2, 2), -4}, {"(do)", 2048, lacks(s(1, 2), s(3), 2, 2), -5}, {"(lit)", 2048, lacks(s(1, 2), nil, 2, 2), -9}, {"(lit)", 1408, lacks(s(1, 2), nil, 2, 2), -3},
		{"(0branch)", 2048, lacks(nil, nil, 2, 2), -4}, {"(str)", 2048, lacks(s(1, 2), nil, 2, 2), -9}, {"(str)", 1408, lacks(s(1, 2), nil, 2, 2), -9}, {"R>", 1408, lacks(s(1, 2), nil, 2, 2), -6}, {"R>", 1408, lacks(s(1, 2), s(3), 2, 2), -3},
		{"R@", 1408, lacks(s(1, 2), nil, 2, 2), -6}, {"I", 1408, lacks(s(1, 2), nil, 2, 2), -6}, {"J", 1408, lacks(s(1, 2), s(3, 4), 2, 2), -6}, {"2R>", 1408, lacks(s(1), s(3), 2, 2), -6}, {"2R>", 1408, lacks(s(1), s(3, 4), 2, 2), -3},
		{">R", 1408, lacks(nil, s(3, 4), 2, 2), -4}, {">R", 1408, lacks(s(1), s(3, 4), 2, 2), -5}, {"2>R", 1408, lacks(s(1), s(3, 4), 2, 2), -4}, {"2>R", 1408, lacks(s(1, 2), s(3), 2, 2), -5},
		{"CATCH", 1408, func(v *api.Vm) { v.D = nil }, -4}, {"THROW", 1408, func(v *api.Vm) { v.D = nil }, -4}, {"EXECUTE", 1408, func(v *api.Vm) { v.D = nil }, -4},
		{"(does)", 1408, func(v *api.Vm) { v.R, v.Last = nil, 0 }, -31}, {"(does)", 1408, func(v *api.Vm) { v.R, v.Last = nil, 2040; cells(v, 2040, 257) }, -9}, {"(does)", 1408, func(v *api.Vm) { v.R, v.Last = nil, 1504 }, -6},
		{"", 1408, func(*api.Vm) {}, -3}, {"", 1408, lacks(s(1), s(3, 4), 2, 2), -5},
	} {
		a := deep(v)
		x.on(&a)
		w := 1504
		if x.name != "" {
			w = place(t, x.name)
		}
		check(t, fmt.Sprint("case ", i, ", ", x.name), api.Run{Vm: a, Ip: x.ip, W: w, Do: true, Fuel: 2}, api.Run{Vm: a, Ip: x.ip, Fuel: 1}, false, x.code)
	}
	// What is fetched of a word with a deed is told ahead of both stacks' room.
	a := deep(v)
	cells(&a, 2040, 259)
	check(t, "a deed that isn't there", api.Run{Vm: a, Ip: 16, W: 2040, Do: true, Fuel: 2}, api.Run{Vm: a, Ip: 16, Fuel: 1}, false, -9)
	cells(&a, 2040, 258)
	check(t, "a constant that isn't there", api.Run{Vm: a, Ip: 16, W: 2040, Do: true, Fuel: 2}, api.Run{Vm: a, Ip: 16, Fuel: 1}, false, -9)
	// Under of CATCH comes ahead of the frames that there are.
	a.D = nil
	a.F = make([]api.Frame, 64)
	got, _, code := Step(api.Run{Vm: a, Ip: 16, W: place(t, "CATCH"), Do: true, Fuel: 2})
	if code != api.OK || !slices.Equal(got.Vm.D, s(-4)) || len(got.Vm.F) != 63 {
		t.Error("CATCH of nothing with 64 frames:", got.Vm.D, len(got.Vm.F), code)
	}
}

// What is put on the stacks leaves what a frame knows of: a frame that is taken leaves the cells as they are now, not as they were.
func TestAFrameKnowsHowManyNotWhich(t *testing.T) {
	v := busy(t)
	v.D, v.R = s(8, 9), s(6)
	v.F = []api.Frame{{D: 2, R: 1, Ip: 1500}}
	want := api.Run{Vm: deep(v), Ip: 1500, Fuel: 0}
	want.Vm.D, want.Vm.F = s(8, 9, 9), nil
	check(t, "THROW of 9", api.Run{Vm: v, Ip: 1400, W: place(t, "THROW"), Do: true, Fuel: 1}, want, false, api.OK)
}
