package prim

import (
	"fmt"
	"testing"

	"detent/api"
)

// Memory has 2048 bytes here: the last cell stands at 2040.

func cellCases() []given {
	here := cells(0, 10, 1400, 258, 1408, -2, 2032, least, 2040, most)
	return []given{
		{name: "@", in: s(0), out: s(10)}, {name: "@", in: s(1400), out: s(258), on: here}, {name: "@", in: s(1408), out: s(-2), on: here}, {name: "@", in: s(2032), out: s(least), on: here},
		{name: "@", in: s(2040), out: s(most), on: here},
		{name: "@", in: s(2048), code: -9}, {name: "@", in: s(2041), code: -9}, {name: "@", in: s(2047), code: -9}, {name: "@", in: s(-1), code: -9}, {name: "@", in: s(-8), code: -9}, {name: "@", in: s(least), code: -9}, {name: "@", in: s(most), code: -9}, {name: "@", in: s(most - 7), code: -9},
		{name: "@", in: s(1), code: -23}, {name: "@", in: s(4), code: -23}, {name: "@", in: s(1401), code: -23}, {name: "@", in: s(2039), code: -23},
		{name: "!", in: s(258, 0), then: stored(0, 258)}, {name: "!", in: s(-2, 1400), then: stored(1400, -2)}, {name: "!", in: s(least, 2040), then: stored(2040, least)},
		{name: "!", in: s(1400, 1408), then: stored(1408, 1400)},
		{name: "!", in: s(5, 2048), code: -9}, {name: "!", in: s(0, 2041), code: -9}, {name: "!", in: s(0, -1), code: -9}, {name: "!", in: s(0, -8), code: -9}, {name: "!", in: s(0, least), code: -9}, {name: "!", in: s(0, most), code: -9},
		{name: "!", in: s(0, 4), code: -23}, {name: "!", in: s(0, 2039), code: -23},
		{name: "+!", in: s(5, 0), then: stored(0, 15)}, {name: "+!", in: s(5, 1400), on: here, then: stored(1400, 263)}, {name: "+!", in: s(-1, 1408), on: here, then: stored(1408, -3)}, {name: "+!", in: s(0, 1400), on: here, then: stored(1400, 258)},
		{name: "+!", in: s(1, 2040), on: here, then: stored(2040, least)}, {name: "+!", in: s(-1, 2032), on: here, then: stored(2032, most)}, {name: "+!", in: s(least, 2032), on: here, then: stored(2032, 0)},
		{name: "+!", in: s(1, 2048), code: -9}, {name: "+!", in: s(0, 2041), code: -9}, {name: "+!", in: s(0, -1), code: -9}, {name: "+!", in: s(0, -8), code: -9}, {name: "+!", in: s(0, least), code: -9}, {name: "+!", in: s(0, most), code: -9},
		{name: "+!", in: s(0, 4), code: -23}, {name: "+!", in: s(0, 2039), code: -23},
		{name: "C@", in: s(0), out: s(10)}, {name: "C@", in: s(1), out: s(0)}, {name: "C@", in: s(1369), out: s(2)}, {name: "C@", in: s(1408), out: s(254), on: here}, {name: "C@", in: s(1409), out: s(255), on: here}, {name: "C@", in: s(2047), out: s(127), on: here},
		{name: "C@", in: s(2048), code: -9}, {name: "C@", in: s(-1), code: -9}, {name: "C@", in: s(least), code: -9}, {name: "C@", in: s(most), code: -9},
		{name: "C!", in: s(65, 0), then: written(0, 65)}, {name: "C!", in: s(255, 1401), then: written(1401, 255)}, {name: "C!", in: s(256, 1401), then: written(1401, 0)}, {name: "C!", in: s(-1, 2047), then: written(2047, 255)}, {name: "C!", in: s(least+77, 2046), then: written(2046, 77)},
		{name: "C!", in: s(0, 2048), code: -9}, {name: "C!", in: s(0, -1), code: -9}, {name: "C!", in: s(0, least), code: -9}, {name: "C!", in: s(0, most), code: -9},
		{name: "COUNT", in: s(0), out: s(1, 10)}, {name: "COUNT", in: s(1369), out: s(1370, 2)}, {name: "COUNT", in: s(1408), out: s(1409, 254), on: here}, {name: "COUNT", in: s(2047), out: s(2048, 127), on: here},
		{name: "COUNT", in: s(2048), code: -9}, {name: "COUNT", in: s(-1), code: -9}, {name: "COUNT", in: s(least), code: -9}, {name: "COUNT", in: s(most), code: -9},
	}
}

func TestCells(t *testing.T) { checkAll(t, cellCases()) }

func pairCases() []given {
	here := cells(0, 10, 8, -1, 1400, 258, 1408, -2, 2032, least, 2040, most)
	return []given{
		{name: "2@", in: s(0), out: s(-1, 10), on: here}, {name: "2@", in: s(1400), out: s(-2, 258), on: here}, {name: "2@", in: s(2032), out: s(most, least), on: here},
		// The second cell isn't there; the first one isn't a cell's place; neither is there.
		{name: "2@", in: s(2040), code: -9}, {name: "2@", in: s(2036), code: -23}, {name: "2@", in: s(2039), code: -23}, {name: "2@", in: s(2041), code: -9}, {name: "2@", in: s(2048), code: -9},
		{name: "2@", in: s(4), code: -23}, {name: "2@", in: s(-8), code: -9}, {name: "2@", in: s(-4), code: -9}, {name: "2@", in: s(-1), code: -9}, {name: "2@", in: s(least), code: -9},
		{name: "2@", in: s(most), code: -9}, {name: "2@", in: s(most - 7), code: -9}, {name: "2@", in: s(most - 15), code: -9},
		{name: "2!", in: s(7, 8, 0), then: all(stored(0, 8), stored(8, 7))}, {name: "2!", in: s(-2, least, 1400), then: all(stored(1400, least), stored(1408, -2))}, {name: "2!", in: s(most, -1, 2032), then: all(stored(2032, -1), stored(2040, most))},
		{name: "2!", in: s(7, 8, 2040), code: -9}, {name: "2!", in: s(7, 8, 2036), code: -23}, {name: "2!", in: s(7, 8, 2041), code: -9}, {name: "2!", in: s(7, 8, 2048), code: -9},
		{name: "2!", in: s(7, 8, 4), code: -23}, {name: "2!", in: s(7, 8, -8), code: -9}, {name: "2!", in: s(7, 8, -4), code: -9}, {name: "2!", in: s(7, 8, -1), code: -9}, {name: "2!", in: s(7, 8, least), code: -9},
		{name: "2!", in: s(7, 8, most), code: -9}, {name: "2!", in: s(7, 8, most-7), code: -9},
	}
}

func TestPairs(t *testing.T) { checkAll(t, pairCases()) }

func rangeCases() []given {
	return []given{
		{name: "FILL", in: s(1400, 3, 65), then: written(1400, 65, 65, 65)}, {name: "FILL", in: s(0, 1, 256+16), then: written(0, 16)}, {name: "FILL", in: s(2047, 1, -1), then: written(2047, 255)}, {name: "FILL", in: s(2041, 7, 0), then: written(2041, 0, 0, 0, 0, 0, 0, 0)},
		{name: "FILL", in: s(0, 2048, 3), then: written(0, bytesOf(2048, 3)...)},
		{name: "FILL", in: s(1400, 0, 65)}, {name: "FILL", in: s(2048, 0, 65)}, {name: "FILL", in: s(-1, 0, 65)}, {name: "FILL", in: s(most, 0, 65)}, {name: "FILL", in: s(least, 0, 65)},
		{name: "FILL", in: s(1400, -1, 65), code: -9}, {name: "FILL", in: s(1400, least, 65), code: -9}, {name: "FILL", in: s(1400, most, 65), code: -9}, {name: "FILL", in: s(2047, 2, 65), code: -9}, {name: "FILL", in: s(2048, 1, 65), code: -9}, {name: "FILL", in: s(-1, 1, 65), code: -9}, {name: "FILL", in: s(-1, 2, 65), code: -9}, {name: "FILL", in: s(0, 2049, 65), code: -9}, {name: "FILL", in: s(most, 1, 65), code: -9}, {name: "FILL", in: s(least, most, 65), code: -9},
		{name: "MOVE", in: s(1368, 1400, 3), then: written(1400, 1, 2, 3)}, {name: "MOVE", in: s(0, 2047, 1), then: written(2047, 10)}, {name: "MOVE", in: s(2047, 0, 1), then: written(0, 180)},
		// Ranges that overlap: up, down, and at the same place.
		{name: "MOVE", in: s(1368, 1370, 5), then: written(1370, 1, 2, 3, 4, 5)}, {name: "MOVE", in: s(1370, 1368, 5), then: written(1368, 3, 4, 5, 6, 7)}, {name: "MOVE", in: s(1370, 1370, 2), then: written(1370, 3, 4)},
		{name: "MOVE", in: s(1368, 1400, 0)}, {name: "MOVE", in: s(-1, 5000, 0)}, {name: "MOVE", in: s(most, least, 0)},
		{name: "MOVE", in: s(1368, 1400, -1), code: -9}, {name: "MOVE", in: s(1368, 1400, least), code: -9}, {name: "MOVE", in: s(1368, 1400, most), code: -9},
		{name: "MOVE", in: s(2046, 1400, 3), code: -9}, {name: "MOVE", in: s(1400, 2046, 3), code: -9}, {name: "MOVE", in: s(2048, 1400, 1), code: -9}, {name: "MOVE", in: s(1400, 2048, 1), code: -9}, {name: "MOVE", in: s(-1, 1400, 1), code: -9}, {name: "MOVE", in: s(1400, -1, 1), code: -9}, {name: "MOVE", in: s(most, 1400, 2), code: -9}, {name: "MOVE", in: s(1400, most, 2), code: -9}, {name: "MOVE", in: s(least, least, 1), code: -9},
	}
}

// bytesOf is a row of so many bytes.
func bytesOf(n int, b byte) []byte {
	out := make([]byte, n)
	for i := range out {
		out[i] = b
	}
	return out
}

func TestRanges(t *testing.T) { checkAll(t, rangeCases()) }

// here turns a machine's end.
func here(at int) func(*api.Vm) { return func(v *api.Vm) { v.Here = at } }

func roomCases() []given {
	return []given{
		{name: "HERE", out: s(1440)}, {name: "HERE", out: s(1368), on: here(1368)}, {name: "HERE", out: s(2048), on: here(2048)}, {name: "HERE", out: s(1371), on: here(1371)},
		{name: "ALLOT", in: s(5), then: here(1445)}, {name: "ALLOT", in: s(0), then: here(1440)}, {name: "ALLOT", in: s(-5), then: here(1435)},
		{name: "ALLOT", in: s(1368 - 1440), then: here(1368)}, {name: "ALLOT", in: s(1368 - 1441), code: -8}, {name: "ALLOT", in: s(2048 - 1440), then: here(2048)}, {name: "ALLOT", in: s(2049 - 1440), code: -8},
		{name: "ALLOT", in: s(most), code: -8}, {name: "ALLOT", in: s(least), code: -8}, {name: "ALLOT", in: s(-1440), code: -8}, {name: "ALLOT", in: s(most - 1440), code: -8},
		{name: "ALLOT", in: s(0), on: here(2048), then: here(2048)}, {name: "ALLOT", in: s(1), on: here(2048), code: -8}, {name: "ALLOT", in: s(0), on: here(1368), then: here(1368)}, {name: "ALLOT", in: s(-1), on: here(1368), code: -8}, {name: "ALLOT", in: s(1368 - 2048), on: here(2048), then: here(1368)},
		{name: ",", in: s(258), then: all(stored(1440, 258), here(1448))}, {name: ",", in: s(least), on: here(2040), then: all(stored(2040, least), here(2048))}, {name: ",", in: s(-1), on: here(1368), then: all(stored(1368, -1), here(1376))},
		{name: ",", in: s(5), on: here(2048), code: -8}, {name: ",", in: s(5), on: here(1441), code: -23}, {name: ",", in: s(5), on: here(2041), code: -23}, {name: ",", in: s(5), on: here(2047), code: -23},
		{name: "C,", in: s(65), then: all(written(1440, 65), here(1441))}, {name: "C,", in: s(256), on: here(2047), then: all(written(2047, 0), here(2048))}, {name: "C,", in: s(-1), on: here(1441), then: all(written(1441, 255), here(1442))},
		{name: "C,", in: s(5), on: here(2048), code: -8},
		{name: "ALIGN"}, {name: "ALIGN", on: here(1441), then: all(written(1441, 0, 0, 0, 0, 0, 0, 0), here(1448))}, {name: "ALIGN", on: here(1447), then: all(written(1447, 0), here(1448))}, {name: "ALIGN", on: here(2041), then: all(written(2041, 0, 0, 0, 0, 0, 0, 0), here(2048))}, {name: "ALIGN", on: here(2047), then: all(written(2047, 0), here(2048))}, {name: "ALIGN", on: here(2048)}, {name: "ALIGN", on: here(1368)},
	}
}

func TestRoom(t *testing.T) { checkAll(t, roomCases()) }

func knownCases() []given {
	return []given{
		{name: "BASE", out: s(0)}, {name: "STATE", out: s(8)}, {name: "TRUE", out: s(-1)}, {name: "FALSE", out: s(0)}, {name: "BL", out: s(32)},
		{name: "BASE", out: s(0), on: cells(0, 16)}, {name: "STATE", out: s(8), on: cells(8, -1)},
		{name: "DECIMAL", on: cells(0, 16), then: stored(0, 10)}, {name: "DECIMAL", then: stored(0, 10)}, {name: "HEX", then: stored(0, 16)}, {name: "HEX", on: cells(0, -1), then: stored(0, 16)},
		{name: "ARG", out: s(-77)}, {name: "SELF", out: s(1)}, {name: "NOW", out: s(1000)},
		{name: "ARG", out: s(least), on: func(v *api.Vm) { v.Arg = least }}, {name: "SELF", out: s(-9), on: func(v *api.Vm) { v.Self = -9 }}, {name: "NOW", out: s(most), on: func(v *api.Vm) { v.Now = most }},
	}
}

func TestKnown(t *testing.T) { checkAll(t, knownCases()) }

// A cell, and a byte, at each place of a memory.
func TestCellsAtEachPlace(t *testing.T) {
	v := busy(t)
	for at := -20; at <= 2070; at++ {
		cellCode, byteCode := api.OK, api.OK
		switch {
		case at < 0 || at > 2040:
			cellCode = -9
		case at%8 != 0:
			cellCode = -23
		}
		if at < 0 || at > 2047 {
			byteCode = -9
		}
		for name, d := range map[string][]int{"@": {at}, "!": {5, at}, "+!": {5, at}, "GET-STATE": {at}} {
			if _, code := do(t, with(v, d...), name); code != cellCode {
				t.Errorf("%s at %d: %d, want %d", name, at, code, cellCode)
			}
		}
		for name, d := range map[string][]int{"C@": {at}, "C!": {5, at}, "COUNT": {at}} {
			if _, code := do(t, with(v, d...), name); code != byteCode {
				t.Errorf("%s at %d: %d, want %d", name, at, code, byteCode)
			}
		}
	}
}

// P11.3: what is stored is fetched, and what isn't written stays.
func TestWhatIsStoredIsFetched(t *testing.T) {
	for _, n := range []int{0, 1, -1, 255, 256, 1 << 40, least, most} {
		for _, at := range []int{0, 8, 1368, 1400, 2032, 2040} {
			v := done(t, with(busy(t), n, at), "!")
			if got := done(t, with(v, at), "@"); got.D[0] != n {
				t.Errorf("! and @ of %d at %d: %v", n, at, got.D)
			}
			v = done(t, with(v, 3, at), "+!")
			if got := done(t, with(v, at), "@"); got.D[0] != n+3 {
				t.Errorf("+! and @ of %d at %d: %v", n, at, got.D)
			}
			v = done(t, with(busy(t), n, at), "C!")
			if got := done(t, with(v, at), "C@"); got.D[0] != n&255 {
				t.Errorf("C! and C@ of %d at %d: %v", n, at, got.D)
			}
			if at == 2040 {
				continue
			}
			v = done(t, with(busy(t), n, -77, at), "2!")
			if got := done(t, with(v, at), "2@"); fmt.Sprint(got.D) != fmt.Sprint(s(n, -77)) {
				t.Errorf("2! and 2@ of %d at %d: %v", n, at, got.D)
			}
			for other := 1368; other < 2048; other += 8 {
				if got, was := done(t, with(v, other), "@"), done(t, with(busy(t), other), "@"); other != at && other != at+8 && got.D[0] != was.D[0] {
					t.Errorf("2! at %d changes what stands at %d", at, other)
				}
			}
		}
	}
}

// What is laid stands one behind the other.
func TestWhatIsLaidStandsAheadOfHere(t *testing.T) {
	v := done(t, with(plain(t), 8, 7, 258, -2), ", , C, ALIGN ,")
	got := done(t, v, "HERE")
	if got.D[0] != 1368+8+8+8+8 || len(got.D) != 1 {
		t.Error("HERE:", got.D)
	}
	for at, want := range map[int]int{1368: -2, 1376: 258, 1384: 7, 1392: 8} {
		if got := done(t, with(v, at), "@"); got.D[0] != want {
			t.Errorf("at %d: %v, want %d", at, got.D, want)
		}
	}
}

// Memories of other sizes have their ends elsewhere.
func TestTheEndOfTheGreatestMemory(t *testing.T) {
	v := made(t, api.Conf{Mem: 65536, Data: 20, Ret: 1, Words: 200, Out: 10})
	for _, c := range []struct {
		name string
		in   []int
		code api.Throw
	}{
		{"@", s(65528), 0}, {"@", s(65536), -9}, {"@", s(65529), -9}, {"@", s(65527), -23}, {"C@", s(65535), 0}, {"C@", s(65536), -9}, {"COUNT", s(65535), 0}, {"COUNT", s(65536), -9},
		{"!", s(1, 65528), 0}, {"!", s(1, 65536), -9}, {"2@", s(65520), 0}, {"2@", s(65528), -9}, {"2!", s(1, 2, 65520), 0}, {"2!", s(1, 2, 65528), -9},
		{"FILL", s(0, 65536, 0), 0}, {"FILL", s(0, 65537, 0), -9}, {"MOVE", s(0, 1, 65535), 0}, {"MOVE", s(0, 1, 65536), -9}, {"ALLOT", s(65536 - 1368), 0}, {"ALLOT", s(65537 - 1368), -8},
		{"TYPE", s(65526, 10), 0}, {"TYPE", s(65527, 10), -9},
	} {
		was := with(v, c.in...)
		got, code := do(t, was, c.name)
		if code != c.code {
			t.Errorf("%s of %v: %d, want %d", c.name, c.in, code, c.code)
		}
		if code != api.OK {
			expect(t, c.name, got, code, was, c.code)
		}
	}
}
