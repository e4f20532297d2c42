package prim

import (
	"bytes"
	"fmt"
	"math/big"
	"slices"
	"strings"
	"testing"

	"detent/api"
	"detent/num"
)

// put tells what is put out.
func put(text string) func(*api.Vm) {
	return func(v *api.Vm) { v.Out = append(v.Out, text...) }
}

// left turns a machine so that it has room for just so many bytes that are put out.
func left(n int) func(*api.Vm) {
	return func(v *api.Vm) { v.Conf.Out = len(v.Out) + n }
}

func printCases() []given {
	const outFull = -260
	texts := cells(1400, 'a'+'b'<<8+'c'<<16)
	return []given{
		{name: "EMIT", in: s(65), then: put("A")}, {name: "EMIT", in: s(0), then: put("\x00")}, {name: "EMIT", in: s(255), then: put("\xff")}, {name: "EMIT", in: s(256), then: put("\x00")}, {name: "EMIT", in: s(-1), then: put("\xff")}, {name: "EMIT", in: s(128), then: put("\x80")}, {name: "EMIT", in: s(least + 65), then: put("A")}, {name: "EMIT", in: s(0x20AC), then: put("\xac")},
		{name: "EMIT", in: s(65), on: left(1), then: put("A")}, {name: "EMIT", in: s(65), on: left(0), code: outFull},
		{name: "CR", then: put("\n")}, {name: "CR", on: left(1), then: put("\n")}, {name: "CR", on: left(0), code: outFull},
		{name: "SPACE", then: put(" ")}, {name: "SPACE", on: left(1), then: put(" ")}, {name: "SPACE", on: left(0), code: outFull},
		{name: "SPACES", in: s(-1)}, {name: "SPACES", in: s(0)}, {name: "SPACES", in: s(1), then: put(" ")}, {name: "SPACES", in: s(3), then: put("   ")}, {name: "SPACES", in: s(least)},
		{name: "SPACES", in: s(194), then: put(strings.Repeat(" ", 194))}, {name: "SPACES", in: s(195), code: outFull}, {name: "SPACES", in: s(200), code: outFull}, {name: "SPACES", in: s(201), code: outFull},
		{name: "SPACES", in: s(most), code: outFull}, {name: "SPACES", in: s(1 << 32), code: outFull}, {name: "SPACES", in: s(5), on: left(5), then: put("     ")}, {name: "SPACES", in: s(6), on: left(5), code: outFull},
		{name: "SPACES", in: s(0), on: left(0)}, {name: "SPACES", in: s(-1), on: left(0)}, {name: "SPACES", in: s(1), on: left(0), code: outFull},
		{name: "TYPE", in: s(1400, 3), on: texts, then: put("abc")}, {name: "TYPE", in: s(1401, 1), on: texts, then: put("b")}, {name: "TYPE", in: s(1400, 4), on: texts, then: put("abc\x00")}, {name: "TYPE", in: s(0, 2), then: put("\n\x00")}, {name: "TYPE", in: s(2047, 1), then: put("\xb4")},
		{name: "TYPE", in: s(1400, 0)}, {name: "TYPE", in: s(-1, 0)}, {name: "TYPE", in: s(2048, 0)}, {name: "TYPE", in: s(most, 0)}, {name: "TYPE", in: s(1400, 0), on: left(0)},
		{name: "TYPE", in: s(2047, 2), code: -9}, {name: "TYPE", in: s(2048, 1), code: -9}, {name: "TYPE", in: s(-1, 1), code: -9}, {name: "TYPE", in: s(1400, -1), code: -9}, {name: "TYPE", in: s(1400, least), code: -9}, {name: "TYPE", in: s(0, 2049), code: -9}, {name: "TYPE", in: s(most, most), code: -9},
		{name: "TYPE", in: s(1400, 3), on: all(texts, left(3)), then: put("abc")}, {name: "TYPE", in: s(1400, 3), on: all(texts, left(2)), code: outFull}, {name: "TYPE", in: s(0, 2048), code: outFull}, {name: "TYPE", in: s(2047, 2), on: left(0), code: -9},
	}
}

func TestPrints(t *testing.T) { checkAll(t, printCases()) }

func numberCases() []given {
	const outFull = -260
	base := func(n int) func(*api.Vm) { return cells(0, n) }
	bits := strings.Repeat("1", 63)
	return []given{
		{name: ".", in: s(0), then: put("0 ")}, {name: ".", in: s(-1), then: put("-1 ")}, {name: ".", in: s(25), then: put("25 ")}, {name: ".", in: s(least), then: put("-9223372036854775808 ")}, {name: ".", in: s(most), then: put("9223372036854775807 ")},
		{name: ".", in: s(0), on: base(2), then: put("0 ")}, {name: ".", in: s(-1), on: base(2), then: put("-1 ")}, {name: ".", in: s(least), on: base(2), then: put("-1" + strings.Repeat("0", 63) + " ")}, {name: ".", in: s(most), on: base(2), then: put(bits + " ")},
		{name: ".", in: s(0), on: base(16), then: put("0 ")}, {name: ".", in: s(-255), on: base(16), then: put("-FF ")}, {name: ".", in: s(least), on: base(16), then: put("-8000000000000000 ")}, {name: ".", in: s(most), on: base(16), then: put("7FFFFFFFFFFFFFFF ")},
		{name: ".", in: s(0), on: base(36), then: put("0 ")}, {name: ".", in: s(-35), on: base(36), then: put("-Z ")}, {name: ".", in: s(least), on: base(36), then: put("-1Y2P0IJ32E8E8 ")}, {name: ".", in: s(most), on: base(36), then: put("1Y2P0IJ32E8E7 ")},
		{name: "U.", in: s(0), then: put("0 ")}, {name: "U.", in: s(-1), then: put("18446744073709551615 ")}, {name: "U.", in: s(25), then: put("25 ")}, {name: "U.", in: s(least), then: put("9223372036854775808 ")}, {name: "U.", in: s(most), then: put("9223372036854775807 ")},
		{name: "U.", in: s(0), on: base(2), then: put("0 ")}, {name: "U.", in: s(-1), on: base(2), then: put(bits + "1 ")}, {name: "U.", in: s(least), on: base(2), then: put("1" + strings.Repeat("0", 63) + " ")}, {name: "U.", in: s(most), on: base(2), then: put(bits + " ")},
		{name: "U.", in: s(0), on: base(16), then: put("0 ")}, {name: "U.", in: s(-1), on: base(16), then: put("FFFFFFFFFFFFFFFF ")}, {name: "U.", in: s(least), on: base(16), then: put("8000000000000000 ")}, {name: "U.", in: s(255), on: base(16), then: put("FF ")},
		{name: "U.", in: s(0), on: base(36), then: put("0 ")}, {name: "U.", in: s(-1), on: base(36), then: put("3W5E11264SGSF ")}, {name: "U.", in: s(least), on: base(36), then: put("1Y2P0IJ32E8E8 ")}, {name: "U.", in: s(most), on: base(36), then: put("1Y2P0IJ32E8E7 ")},
		{name: ".", in: s(5), on: base(0), code: -24}, {name: ".", in: s(5), on: base(1), code: -24}, {name: ".", in: s(5), on: base(37), code: -24}, {name: ".", in: s(5), on: base(-1), code: -24}, {name: ".", in: s(-5), on: base(least), code: -24}, {name: ".", in: s(0), on: base(most), code: -24},
		{name: "U.", in: s(5), on: base(0), code: -24}, {name: "U.", in: s(5), on: base(1), code: -24}, {name: "U.", in: s(5), on: base(37), code: -24}, {name: "U.", in: s(5), on: base(-1), code: -24}, {name: "U.", in: s(5), on: base(1<<32 + 10), code: -24},
		// The blank needs room, too; and the base is asked ahead of the room.
		{name: ".", in: s(-12), on: left(4), then: put("-12 ")}, {name: ".", in: s(-12), on: left(3), code: outFull}, {name: ".", in: s(0), on: left(0), code: outFull}, {name: ".", in: s(5), on: all(base(1), left(0)), code: -24},
		{name: "U.", in: s(12), on: left(3), then: put("12 ")}, {name: "U.", in: s(12), on: left(2), code: outFull}, {name: "U.", in: s(-1), on: left(4), code: outFull}, {name: "U.", in: s(5), on: all(base(37), left(0)), code: -24},
	}
}

func TestNumbersThatArePutOut(t *testing.T) { checkAll(t, numberCases()) }

// In each base, also in those that there aren't.
func TestNumbersInEachBase(t *testing.T) {
	for base := -3; base <= 40; base++ {
		for _, n := range []int{0, 1, -1, 7, -35, 36, 123456789, least, least + 1, most} {
			for name, show := range map[string]func(int, int) (string, api.Throw){".": num.Show, "U.": num.UShow} {
				v := with(plain(t), 5, n)
				cells(0, base)(&v)
				text, wantCode := show(n, base)
				want := v
				if wantCode == api.OK {
					want = with(v, 5)
					want.Out = []byte(text + " ")
				}
				got, code := do(t, v, name)
				expect(t, fmt.Sprint(name, " of ", n, " in base ", base), got, code, want, wantCode)
				if (code == api.OK) != (base >= 2 && base <= 36) {
					t.Errorf("%s in base %d: %d", name, base, code)
				}
			}
		}
	}
}

// The greatest output, up to its last byte.
func TestSpacesOfAsManyAsHaveRoom(t *testing.T) {
	for _, room := range []int{0, 1, 2, 65535, 65536} {
		v := made(t, api.Conf{Mem: 2048, Data: 1, Ret: 1, Words: 200, Out: room})
		got, code := do(t, with(v, room), "SPACES")
		want := with(v)
		want.Out = bytesOf(room, ' ')
		expect(t, fmt.Sprint("SPACES of ", room), got, code, want, api.OK)
		for _, n := range []int{room + 1, room + 2, 65537, 1 << 31, 1 << 40, most} {
			was := with(v, n)
			got, code := do(t, was, "SPACES")
			expect(t, fmt.Sprint("SPACES of ", n, " with room for ", room), got, code, was, -260)
		}
		was := with(want, 1)
		got, code = do(t, was, "SPACES")
		expect(t, "SPACES of one more", got, code, was, -260)
	}
}

// under turns a text under way.
func under(signs string) func(*api.Vm) {
	return func(v *api.Vm) { v.Pic = api.Pic{B: []byte(signs), On: true} }
}

// off turns a machine so that no text is under way.
func off(v *api.Vm) { v.Pic = api.Pic{} }

func picCases() []given {
	const picFull = -17
	full := under(strings.Repeat("x", 130))
	base := func(n int) func(*api.Vm) { return cells(0, n) }
	return []given{
		{name: "<#", then: under("")}, {name: "<#", on: off, then: under("")}, {name: "<#", on: full, then: under("")},
		{name: "#", in: s(123, 0), out: s(12, 0), then: under("3213")}, {name: "#", in: s(0, 0), out: s(0, 0), then: under("3210")}, {name: "#", in: s(5, 1), out: s(1<<60, 0), on: base(16), then: under("3215")}, {name: "#", in: s(-1, -1), out: s(-1, most), on: base(2), then: under("3211")}, {name: "#", in: s(71, 0), out: s(1, 0), on: base(36), then: under("321Z")},
		{name: "#", in: s(0, 7), out: s(int(-1<<63), 3), on: base(2), then: under("3210")},
		{name: "#", in: s(1, 0), out: s(0, 0), on: under(strings.Repeat("x", 129)), then: under(strings.Repeat("x", 129) + "1")},
		{name: "#", in: s(1, 0), on: full, code: picFull}, {name: "#", in: s(1, 0), on: off, code: picFull}, {name: "#", in: s(1, 0), on: base(0), code: -24}, {name: "#", in: s(1, 0), on: base(1), code: -24}, {name: "#", in: s(1, 0), on: base(37), code: -24}, {name: "#", in: s(1, 0), on: base(-1), code: -24},
		// The base is asked ahead of the text.
		{name: "#", in: s(1, 0), on: all(off, base(37)), code: -24}, {name: "#", in: s(1, 0), on: all(full, base(1)), code: -24},
		{name: "#S", in: s(123, 0), out: s(0, 0), then: under("321321")}, {name: "#S", in: s(0, 0), out: s(0, 0), then: under("3210")}, {name: "#S", in: s(0, 1), out: s(0, 0), then: under("321" + "61615590737044764481")}, {name: "#S", in: s(-1, -1), out: s(0, 0), on: all(under(""), base(2)), then: under(strings.Repeat("1", 128))},
		{name: "#S", in: s(-1, -1), out: s(0, 0), on: all(under("xy"), base(2)), then: under("xy" + strings.Repeat("1", 128))}, {name: "#S", in: s(-1, -1), on: all(under("xyz"), base(2)), code: picFull},
		{name: "#S", in: s(1, 0), on: full, code: picFull}, {name: "#S", in: s(10, 0), on: under(strings.Repeat("x", 129)), code: picFull}, {name: "#S", in: s(9, 0), out: s(0, 0), on: under(strings.Repeat("x", 129)), then: under(strings.Repeat("x", 129) + "9")}, {name: "#S", in: s(0, 0), on: off, code: picFull},
		{name: "#S", in: s(1, 0), on: base(0), code: -24}, {name: "#S", in: s(0, 0), on: base(1), code: -24}, {name: "#S", in: s(1, 0), on: base(37), code: -24}, {name: "#S", in: s(1, 0), on: base(-1), code: -24}, {name: "#S", in: s(1, 0), on: all(off, base(37)), code: -24},
		{name: "HOLD", in: s(65), then: under("321A")}, {name: "HOLD", in: s(0), then: under("321\x00")}, {name: "HOLD", in: s(255), then: under("321\xff")}, {name: "HOLD", in: s(256 + 66), then: under("321B")}, {name: "HOLD", in: s(-1), then: under("321\xff")}, {name: "HOLD", in: s(66), on: under(""), then: under("B")},
		{name: "HOLD", in: s(66), on: under(strings.Repeat("x", 129)), then: under(strings.Repeat("x", 129) + "B")}, {name: "HOLD", in: s(65), on: full, code: picFull}, {name: "HOLD", in: s(65), on: off, code: picFull}, {name: "HOLD", in: s(65), on: base(0), then: under("321A")},
		{name: "SIGN", in: s(-1), then: under("321-")}, {name: "SIGN", in: s(least), then: under("321-")}, {name: "SIGN", in: s(0)}, {name: "SIGN", in: s(1)}, {name: "SIGN", in: s(most)},
		{name: "SIGN", in: s(-1), on: full, code: picFull}, {name: "SIGN", in: s(-1), on: off, code: picFull}, {name: "SIGN", in: s(0), on: full}, {name: "SIGN", in: s(1), on: off},
		// Memory has 2048 bytes: 136 less are 1912.
		{name: "#>", in: s(7, 8), out: s(1912, 3), then: all(written(1912, '1', '2', '3'), off)}, {name: "#>", in: s(0, 0), out: s(1912, 0), on: under(""), then: off}, {name: "#>", in: s(least, most), out: s(1912, 1), on: under("-"), then: all(written(1912, '-'), off)},
		{name: "#>", in: s(0, 0), out: s(1912, 130), on: full, then: all(written(1912, bytesOf(130, 'x')...), off)}, {name: "#>", in: s(0, 0), on: off, code: picFull}, {name: "#>", in: s(0, 0), out: s(1912, 3), on: base(0), then: all(written(1912, '1', '2', '3'), off)},
	}
}

func TestPics(t *testing.T) { checkAll(t, picCases()) }

// A number's text is put together from its end, written, and put out.
func TestANumbersTextIsPutTogether(t *testing.T) {
	v := plain(t)
	for _, c := range []struct {
		d     []int
		words string
		text  string
	}{
		{s(123, 0), "<# #S #> TYPE", "123"},
		{s(0, 0), "<# #S #> TYPE", "0"},
		{s(-5, 123, 0), "<# #S ROT SIGN #> TYPE", "-123"},
		{s(5, 123, 0), "<# #S ROT SIGN #> TYPE", "123"},
		{s(12345, 0), "<# # # BL HOLD #S #> TYPE", "123 45"},
		{s(7, 0), "<# # # # #> TYPE", "007"},
		{s(255, 0), "HEX <# #S #> TYPE", "FF"},
		{s(1, 2), "<# #> TYPE", ""},
	} {
		got := done(t, with(v, c.d...), c.words)
		if string(got.Out) != c.text || len(got.D) != 0 || got.Pic.On || len(got.Pic.B) != 0 {
			t.Errorf("%v %s: %q, %v, %v", c.d, c.words, got.Out, got.D, got.Pic)
		}
	}
}

// Without <# there is no text under way, also behind #>.
func TestWithoutTheBeginningThereIsNoText(t *testing.T) {
	fresh, ended := plain(t), done(t, with(plain(t), 1, 0), "<# #S #> 2DROP")
	for _, v := range []api.Vm{fresh, ended} {
		for name, d := range map[string][]int{"#": {1, 0}, "#S": {1, 0}, "HOLD": {65}, "SIGN": {-1}, "#>": {0, 0}} {
			was := with(v, d...)
			check(t, name, was, name, was, -17)
		}
	}
}

// Where the text is written, in memories of other sizes; it may stand on what was laid, and behind it is a patch.
func TestWhereATextIsWritten(t *testing.T) {
	for _, size := range []int{2048, 2056, 4096, 65528, 65536} {
		v := made(t, api.Conf{Mem: size, Data: 4, Ret: 1, Words: 200, Out: 10})
		v.Here = size
		v.Pic = api.Pic{B: bytes.Repeat([]byte{'b', 'a'}, 65), On: true}
		got := done(t, with(v, 3, 4), "#>")
		at := size - 136
		if !slices.Equal(got.D, []int{at, 130}) || string(got.Mem.B[at:at+130]) != strings.Repeat("ab", 65) {
			t.Errorf("of %d bytes: %v, %q", size, got.D, got.Mem.B[at:])
		}
		if len(got.Mem.Old) != 1 || got.Mem.Old[0].At != at || !bytes.Equal(got.Mem.Old[0].Old, make([]byte, 130)) {
			t.Errorf("of %d bytes: %d patches", size, len(got.Mem.Old))
		}
		if !bytes.Equal(got.Mem.B[:at], v.Mem.B[:at]) || !bytes.Equal(got.Mem.B[at+130:], v.Mem.B[at+130:]) || got.Here != size {
			t.Errorf("of %d bytes: more is written", size)
		}
	}
}

// The digits of a pair, one by one and at once, are those of the whole number.
func TestDigitsOfPairs(t *testing.T) {
	for _, base := range []int{2, 3, 10, 16, 36} {
		for _, pair := range [][2]int{{0, 0}, {1, 0}, {-1, 0}, {0, 1}, {-1, -1}, {least, most}, {12345, least}, {most, 7}} {
			v := with(plain(t), pair[0], pair[1])
			cells(0, base)(&v)
			want := strings.ToUpper(unsignedPair(pair[0], pair[1]).Text(base))
			v = done(t, v, "<#")
			one := v
			for range want {
				one = done(t, one, "#")
			}
			for what, got := range map[string]api.Vm{"#": one, "#S": done(t, v, "#S")} {
				if !slices.Equal(got.D, []int{0, 0}) {
					t.Errorf("%s of %v in base %d leaves %v", what, pair, base, got.D)
				}
				got = done(t, got, "#>")
				at := got.D[0]
				if string(got.Mem.B[at:at+got.D[1]]) != want {
					t.Errorf("%s of %v in base %d: %q, want %s", what, pair, base, got.Mem.B[at:at+got.D[1]], want)
				}
			}
		}
	}
}

// Each digit leaves the quotient by the base.
func TestADigitLeavesTheQuotient(t *testing.T) {
	for base := 2; base <= 36; base++ {
		for _, pair := range [][2]int{{0, 0}, {35, 0}, {-1, 0}, {0, 1}, {-1, -1}, {least, most}, {most, least}} {
			v := with(plain(t), pair[0], pair[1])
			cells(0, base)(&v)
			got := done(t, v, "<# #")
			want, rest := new(big.Int).DivMod(unsignedPair(pair[0], pair[1]), big.NewInt(int64(base)), new(big.Int))
			if unsignedPair(got.D[0], got.D[1]).Cmp(want) != 0 || string(got.Pic.B) != strings.ToUpper(rest.Text(36)) {
				t.Errorf("# of %v in base %d: %v, %q", pair, base, got.D, got.Pic.B)
			}
		}
	}
}
