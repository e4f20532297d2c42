package prim

import (
	"fmt"
	"slices"
	"testing"

	"detent/api"
)

func bodyCases() []given {
	all := []given{
		{name: "ABORT", code: -1},
		// At the places of code fields; a new machine's own are none with a body.
		{name: ">BODY", in: s(216), code: -31}, {name: ">BODY", in: s(32), code: -31}, {name: ">BODY", in: s(1360), code: -31}, {name: ">BODY", in: s(0), code: -31},
		{name: ">BODY", in: s(1401), code: -23}, {name: ">BODY", in: s(4), code: -23}, {name: ">BODY", in: s(2039), code: -23}, {name: ">BODY", in: s(2041), code: -9}, {name: ">BODY", in: s(2048), code: -9}, {name: ">BODY", in: s(-8), code: -9}, {name: ">BODY", in: s(-1), code: -9}, {name: ">BODY", in: s(least), code: -9}, {name: ">BODY", in: s(most), code: -9}, {name: ">BODY", in: s(most - 7), code: -9},
		{name: ">BODY", in: s(2040), out: s(2056), on: cells(2040, 257)}, {name: ">BODY", in: s(0), out: s(16), on: cells(0, 258)},
	}
	for _, n := range []int{257, 258, 259, 260} {
		all = append(all, given{name: ">BODY", in: s(1400), out: s(1416), on: cells(1400, n)})
	}
	for _, n := range []int{0, 1, 11, 12, 23, 128, 129, 256, 300, 301, 336} {
		all = append(all, given{name: ">BODY", in: s(1400), code: -31, on: cells(1400, n)})
	}
	for _, n := range []int{130, 255, 261, 299, 337, -1, 1<<32 + 257, least, most} {
		all = append(all, given{name: ">BODY", in: s(1400), code: -9, on: cells(1400, n)})
	}
	return all
}

func TestBodies(t *testing.T) { checkAll(t, bodyCases()) }

// asking tells one thing more that is asked for.
func asking(r api.Req) func(*api.Vm) {
	return func(v *api.Vm) { v.Req = append(v.Req, r) }
}

// asks turns a machine so that so many things are asked for.
func asks(n int) func(*api.Vm) {
	return func(v *api.Vm) {
		v.Req = make([]api.Req, n)
		for i := range v.Req {
			v.Req[i] = api.Req{Kind: 1, Arg: i}
		}
	}
}

// hands turns a machine so that it has so many handlers, all Out.
func hands(n int) func(*api.Vm) {
	return func(v *api.Vm) {
		v.Hand = make([]api.Hand, n)
		for i := range v.Hand {
			v.Hand[i] = api.Hand{Xt: 1368, Fuel: i, Strikes: i, Out: true}
		}
	}
}

// timers turns how many timers are free, and the next one's number.
func timers(free, next int) func(*api.Vm) {
	return func(v *api.Vm) { v.Free, v.Next = free, next }
}

func eventCases() []given {
	const noHandler, postFull = -259, -257
	return []given{
		{name: "POST", in: s(55, 0, 0), then: asking(api.Req{Kind: 1, Arg: 55, Hand: 0, Rank: 0})}, {name: "POST", in: s(-55, 2, 3), then: asking(api.Req{Kind: 1, Arg: -55, Hand: 2, Rank: 3})}, {name: "POST", in: s(least, 1, 2), then: asking(api.Req{Kind: 1, Arg: least, Hand: 1, Rank: 2})},
		{name: "POST", in: s(5, -1, 0), code: noHandler}, {name: "POST", in: s(5, 3, 0), code: noHandler}, {name: "POST", in: s(5, least, 0), code: noHandler}, {name: "POST", in: s(5, most, 0), code: noHandler}, {name: "POST", in: s(5, 0, -1), code: noHandler}, {name: "POST", in: s(5, 0, 4), code: noHandler}, {name: "POST", in: s(5, 0, least), code: noHandler}, {name: "POST", in: s(5, 0, most), code: noHandler}, {name: "POST", in: s(5, -1, 4), code: noHandler},
		{name: "POST", in: s(5, 0, 0), on: hands(0), code: noHandler}, {name: "POST", in: s(5, -1, 0), on: hands(0), code: noHandler}, {name: "POST", in: s(5, 63, 0), on: hands(64), then: asking(api.Req{Kind: 1, Arg: 5, Hand: 63})}, {name: "POST", in: s(5, 64, 0), on: hands(64), code: noHandler}, {name: "POST", in: s(5, 1, 0), on: hands(1), code: noHandler},
		{name: "POST", in: s(5, 0, 0), on: asks(0), then: asking(api.Req{Kind: 1, Arg: 5})}, {name: "POST", in: s(5, 0, 0), on: asks(15), then: asking(api.Req{Kind: 1, Arg: 5})}, {name: "POST", in: s(5, 0, 0), on: asks(16), code: postFull}, {name: "POST", in: s(5, 3, 0), on: asks(16), code: noHandler}, {name: "POST", in: s(5, 0, 4), on: asks(16), code: noHandler},
		{name: "POST", in: s(5, 0, 0), on: timers(0, 1<<62), then: asking(api.Req{Kind: 1, Arg: 5})},
		{name: "CANCEL", in: s(7), then: asking(api.Req{Kind: 4, Id: 7})}, {name: "CANCEL", in: s(-1), then: asking(api.Req{Kind: 4, Id: -1})}, {name: "CANCEL", in: s(least), then: asking(api.Req{Kind: 4, Id: least})}, {name: "CANCEL", in: s(most), then: asking(api.Req{Kind: 4, Id: most})},
		{name: "CANCEL", in: s(7), on: all(hands(0), timers(0, 1<<62)), then: asking(api.Req{Kind: 4, Id: 7})}, {name: "CANCEL", in: s(7), on: asks(15), then: asking(api.Req{Kind: 4, Id: 7})}, {name: "CANCEL", in: s(7), on: asks(16), code: postFull},
	}
}

func TestEvents(t *testing.T) { checkAll(t, eventCases()) }

// A busy machine has three handlers, 3 timers free, and 9 as the next one's number.
func timerCases() []given {
	var l []given
	for name, kind := range map[string]int{"AFTER": 2, "EVERY": 3} {
		l = append(l, timersThatAreAsked(name, kind)...)
		l = append(l, timersThatMayNotBe(name, kind)...)
	}
	slices.SortStableFunc(l, func(a, b given) int { return int(a.name[0]) - int(b.name[0]) })
	return l
}

func timersThatAreAsked(name string, kind int) []given {
	return []given{
		{name: name, in: s(55, 0, 0, 1), out: s(9), then: all(asking(api.Req{Kind: kind, Arg: 55, Delay: 1, Id: 9}), timers(2, 10))},
		{name: name, in: s(-55, 2, 3, 100), out: s(9), then: all(asking(api.Req{Kind: kind, Arg: -55, Hand: 2, Rank: 3, Delay: 100, Id: 9}), timers(2, 10))},
		{name: name, in: s(least, 1, 2, 1<<32-1), out: s(9), then: all(asking(api.Req{Kind: kind, Arg: least, Hand: 1, Rank: 2, Delay: 1<<32 - 1, Id: 9}), timers(2, 10))},
		{name: name, in: s(5, 63, 3, 2), out: s(9), on: hands(64), then: all(asking(api.Req{Kind: kind, Arg: 5, Hand: 63, Rank: 3, Delay: 2, Id: 9}), timers(2, 10))},
		{name: name, in: s(5, 0, 0, 2), out: s(9), on: asks(15), then: all(asking(api.Req{Kind: kind, Arg: 5, Delay: 2, Id: 9}), timers(2, 10))},
		{name: name, in: s(5, 0, 0, 2), out: s(0), on: timers(1, 0), then: all(asking(api.Req{Kind: kind, Arg: 5, Delay: 2}), timers(0, 1))},
		{name: name, in: s(5, 0, 0, 2), out: s(1<<62 - 1), on: timers(64, 1<<62-1), then: all(asking(api.Req{Kind: kind, Arg: 5, Delay: 2, Id: 1<<62 - 1}), timers(63, 1<<62))},
	}
}

func timersThatMayNotBe(name string, kind int) []given {
	const badNumber, noHandler, postFull, poolFull = -24, -259, -257, -258
	var l []given
	add := func(code api.Throw, on func(*api.Vm), in ...int) {
		l = append(l, given{name: name, in: in, code: code, on: on})
	}
	none := func(*api.Vm) {}
	for _, h := range []int{-1, 3, 64, least, most} {
		add(noHandler, none, 5, h, 0, 1)
	}
	for _, r := range []int{-1, 4, least, most} {
		add(noHandler, none, 5, 0, r, 1)
	}
	add(noHandler, hands(0), 5, 0, 0, 1)
	add(noHandler, hands(64), 5, 64, 0, 1)
	for _, d := range []int{0, -1, 1 << 32, 1<<32 + 1, least, most} {
		add(badNumber, none, 5, 0, 0, d)
	}
	add(postFull, asks(16), 5, 0, 0, 1)
	add(poolFull, timers(0, 9), 5, 0, 0, 1)
	add(poolFull, timers(64, 1<<62), 5, 0, 0, 1)
	add(poolFull, timers(0, 1<<62), 5, 0, 0, 1)
	// NoHandler, BadNumber, PostFull, PoolFull: each ahead of all that come behind it.
	add(noHandler, all(asks(16), timers(0, 1<<62)), 5, 3, 0, 0)
	add(noHandler, all(asks(16), timers(0, 1<<62)), 5, 0, 4, 1<<32)
	add(noHandler, none, 5, -1, 0, 0)
	add(noHandler, asks(16), 5, -1, 0, 1)
	add(noHandler, timers(0, 9), 5, -1, 0, 1)
	add(badNumber, all(asks(16), timers(0, 1<<62)), 5, 0, 0, 0)
	add(badNumber, asks(16), 5, 0, 0, 1<<32)
	add(badNumber, timers(0, 9), 5, 0, 0, -1)
	add(badNumber, timers(5, 1<<62), 5, 0, 0, 0)
	add(postFull, all(asks(16), timers(0, 9)), 5, 0, 0, 1)
	add(postFull, all(asks(16), timers(5, 1<<62)), 5, 0, 0, 1)
	return l
}

func TestTimers(t *testing.T) { checkAll(t, timerCases()) }

// What is asked for is a row, in order, up to 16; Next, Free and Id go on.
func TestWhatIsAskedForIsARow(t *testing.T) {
	v := plain(t)
	hands(3)(&v)
	timers(5, 40)(&v)
	v = done(t, with(v, 7, 1, 2), "POST")
	v = done(t, with(v, 8, 2, 3, 100), "AFTER")
	if !slices.Equal(v.D, s(40)) || v.Free != 4 || v.Next != 41 {
		t.Error("AFTER:", v.D, v.Free, v.Next)
	}
	v = done(t, with(v, 9, 0, 0, 200), "EVERY")
	if !slices.Equal(v.D, s(41)) || v.Free != 3 || v.Next != 42 {
		t.Error("EVERY:", v.D, v.Free, v.Next)
	}
	v = done(t, v, "CANCEL")
	if len(v.D) != 0 || v.Free != 3 || v.Next != 42 {
		t.Error("CANCEL:", v.D, v.Free, v.Next)
	}
	want := []api.Req{
		{Kind: 1, Arg: 7, Hand: 1, Rank: 2}, {Kind: 2, Arg: 8, Hand: 2, Rank: 3, Delay: 100, Id: 40}, {Kind: 3, Arg: 9, Delay: 200, Id: 41}, {Kind: 4, Id: 41},
	}
	if !slices.Equal(v.Req, want) {
		t.Errorf("%v, want %v", v.Req, want)
	}
	for i := range 12 {
		v = done(t, with(v, i, 1, 1), "POST")
		want = append(want, api.Req{Kind: 1, Arg: i, Hand: 1, Rank: 1})
	}
	if !slices.Equal(v.Req, want) || len(want) != 16 {
		t.Errorf("%v, want %v", v.Req, want)
	}
	for name, d := range map[string][]int{"POST": {7, 1, 2}, "AFTER": {8, 2, 3, 100}, "EVERY": {9, 0, 0, 200}, "CANCEL": {41}} {
		was := with(v, d...)
		check(t, "one more: "+name, was, name, was, -257)
	}
}

// Timers are asked for as long as one is free.
func TestTimersUpToTheLastOne(t *testing.T) {
	v := plain(t)
	hands(1)(&v)
	timers(2, 1<<62-3)(&v)
	v = done(t, with(v, 1, 0, 0, 5), "AFTER")
	v = done(t, with(v, 1, 0, 0, 5), "EVERY")
	if v.Free != 0 || v.Next != 1<<62-1 || v.D[0] != 1<<62-2 {
		t.Error(v.Free, v.Next, v.D)
	}
	was := with(v, 1, 0, 0, 5)
	check(t, "none is free", was, "AFTER", was, -258)
	was.Free = 2
	v = done(t, was, "AFTER")
	if v.Free != 1 || v.Next != 1<<62 || v.D[0] != 1<<62-1 {
		t.Error(v.Free, v.Next, v.D)
	}
	was = with(v, 1, 0, 0, 5)
	check(t, "no number is left", was, "EVERY", was, -258)
}

// The first timer's case of the chapter's table, each number by itself.
func TestTimersNumberByNumber(t *testing.T) {
	v := with(busy(t), 11, 2, 1, 44)
	got, code := do(t, v, "EVERY")
	r := got.Req[len(got.Req)-1]
	if code != api.OK || r.Kind != api.REvery || r.Arg != 11 || r.Hand != 2 || r.Rank != 1 || r.Delay != 44 || r.Id != 9 {
		t.Error(fmt.Sprint(r), code)
	}
}

// A machine of states stands at 1400 here: its state, how many there are, and their words from 1416 on.
func stateCases() []given {
	three := cells(1400, 1, 1408, 3, 1416, 71, 1424, 72, 1432, 73)
	many := cells(1400, 1, 1408, most)
	return []given{
		{name: "GET-STATE", in: s(1400), out: s(1), on: three}, {name: "GET-STATE", in: s(0), out: s(10)}, {name: "GET-STATE", in: s(2040), out: s(-7), on: cells(2040, -7)},
		{name: "GET-STATE", in: s(2048), code: -9}, {name: "GET-STATE", in: s(2041), code: -9}, {name: "GET-STATE", in: s(-8), code: -9}, {name: "GET-STATE", in: s(least), code: -9}, {name: "GET-STATE", in: s(most), code: -9}, {name: "GET-STATE", in: s(1404), code: -23}, {name: "GET-STATE", in: s(1), code: -23},
		{name: "SET-STATE", in: s(0, 1400), on: three, then: stored(1400, 0)}, {name: "SET-STATE", in: s(1, 1400), on: three, then: stored(1400, 1)}, {name: "SET-STATE", in: s(2, 1400), on: three, then: stored(1400, 2)},
		{name: "SET-STATE", in: s(3, 1400), on: three, code: -24}, {name: "SET-STATE", in: s(-1, 1400), on: three, code: -24}, {name: "SET-STATE", in: s(least, 1400), on: three, code: -24}, {name: "SET-STATE", in: s(most, 1400), on: three, code: -24},
		{name: "SET-STATE", in: s(0, 1400), on: cells(1408, 0), code: -24}, {name: "SET-STATE", in: s(0, 1400), on: cells(1408, -1), code: -24}, {name: "SET-STATE", in: s(0, 1400), on: cells(1408, least), code: -24}, {name: "SET-STATE", in: s(most, 1400), on: cells(1408, least), code: -24}, {name: "SET-STATE", in: s(0, 1400), on: cells(1408, 1), then: stored(1400, 0)},
		{name: "SET-STATE", in: s(most-1, 1400), on: many, then: stored(1400, most-1)}, {name: "SET-STATE", in: s(most, 1400), on: many, code: -24},
		{name: "SET-STATE", in: s(1, 2032), on: cells(2040, 2), then: stored(2032, 1)}, {name: "SET-STATE", in: s(0, 2040), code: -9}, {name: "SET-STATE", in: s(0, 2033), code: -9}, {name: "SET-STATE", in: s(0, 2048), code: -9}, {name: "SET-STATE", in: s(0, 1404), on: three, code: -23}, {name: "SET-STATE", in: s(0, 4), code: -23}, {name: "SET-STATE", in: s(0, most), code: -9}, {name: "SET-STATE", in: s(0, most-7), code: -9}, {name: "SET-STATE", in: s(0, least), code: -9}, {name: "SET-STATE", in: s(0, -16), code: -9},
		// At -8 the cell at 0 tells how many states there are, 10: that is asked ahead of the store, which can't be.
		{name: "SET-STATE", in: s(9, -8), code: -9}, {name: "SET-STATE", in: s(10, -8), code: -24}, {name: "SET-STATE", in: s(-1, -8), code: -24}, {name: "SET-STATE", in: s(0, -4), code: -23}, {name: "SET-STATE", in: s(-1, -4), code: -23}, {name: "SET-STATE", in: s(-1, 2040), code: -9},
		{name: "AT-STATE", in: s(55, 0, 1400), on: three, then: stored(1416, 55)}, {name: "AT-STATE", in: s(-55, 1, 1400), on: three, then: stored(1424, -55)}, {name: "AT-STATE", in: s(least, 2, 1400), on: three, then: stored(1432, least)},
		{name: "AT-STATE", in: s(55, 3, 1400), on: three, code: -24}, {name: "AT-STATE", in: s(55, -1, 1400), on: three, code: -24}, {name: "AT-STATE", in: s(55, least, 1400), on: three, code: -24}, {name: "AT-STATE", in: s(55, most, 1400), on: three, code: -24}, {name: "AT-STATE", in: s(55, 0, 1400), on: cells(1408, 0), code: -24}, {name: "AT-STATE", in: s(55, 0, 1400), on: cells(1408, least), code: -24},
		{name: "AT-STATE", in: s(55, 0, 2040), code: -9}, {name: "AT-STATE", in: s(55, 0, 2048), code: -9}, {name: "AT-STATE", in: s(55, 0, 1404), on: three, code: -23}, {name: "AT-STATE", in: s(55, 0, -4), code: -23}, {name: "AT-STATE", in: s(55, 0, most), code: -9}, {name: "AT-STATE", in: s(55, 0, least), code: -9}, {name: "AT-STATE", in: s(55, -1, 2040), code: -9}, {name: "AT-STATE", in: s(55, -1, -4), code: -23},
		// The word's place is behind memory, or its last cell.
		{name: "AT-STATE", in: s(55, 0, 2032), on: cells(2040, 1), code: -9}, {name: "AT-STATE", in: s(55, 1, 2032), on: cells(2040, 1), code: -24}, {name: "AT-STATE", in: s(55, 0, 2024), on: cells(2032, 2), then: stored(2040, 55)}, {name: "AT-STATE", in: s(55, 1, 2024), on: cells(2032, 2), code: -9},
		// A body at -8 isn't there, but the place of its first word is 8: the state's own cell isn't asked for.
		{name: "AT-STATE", in: s(55, 0, -8), then: stored(8, 55)}, {name: "AT-STATE", in: s(55, 9, -8), then: stored(80, 55)}, {name: "AT-STATE", in: s(55, 10, -8), code: -24},
		// 8 times the state, and the sum, go round.
		{name: "AT-STATE", in: s(55, 1<<61, 1400), on: many, then: stored(1416, 55)}, {name: "AT-STATE", in: s(55, 1<<61+2, 1400), on: many, then: stored(1432, 55)}, {name: "AT-STATE", in: s(55, 1<<61-1, 1400), on: many, then: stored(1408, 55)}, {name: "AT-STATE", in: s(55, 1<<62, 1400), on: many, then: stored(1416, 55)}, {name: "AT-STATE", in: s(55, 1<<60, 1400), on: many, code: -9}, {name: "AT-STATE", in: s(55, most-1, 1400), on: many, then: stored(1400, 55)},
	}
}

func TestStates(t *testing.T) { checkAll(t, stateCases()) }

// What is set is got; what a state does stands where it was told.
func TestWhatIsSetIsGot(t *testing.T) {
	v := plain(t)
	cells(1400, 0, 1408, 5)(&v)
	for state := range 5 {
		v = done(t, with(v, state, 1400), "SET-STATE")
		if got := done(t, with(v, 1400), "GET-STATE"); !slices.Equal(got.D, s(state)) {
			t.Errorf("SET-STATE and GET-STATE of %d: %v", state, got.D)
		}
		v = done(t, with(v, 1000+state, state, 1400), "AT-STATE")
	}
	for state := range 5 {
		if got := done(t, with(v, 1416+8*state), "@"); !slices.Equal(got.D, s(1000+state)) {
			t.Errorf("AT-STATE of %d: %v", state, got.D)
		}
	}
}
