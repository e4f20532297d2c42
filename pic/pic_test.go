package pic

import (
	"math"
	"math/big"
	"math/rand"
	"reflect"
	"strconv"
	"strings"
	"testing"

	"detent/api"
	"detent/num"
)

const (
	least = math.MinInt
	most  = math.MaxInt
)

// signs are all digits, in their order.
const signs = "0123456789ABCDEFGHIJKLMNOPQRSTUVWXYZ"

// under is a text under way: begun, with these signs, as they are read.
func under(text string) api.Pic {
	p := api.Pic{On: true}
	for i := len(text) - 1; i >= 0; i-- {
		p.B = append(p.B, text[i])
	}
	return p
}

// filled is a text of so many signs, each other than its neighbours.
func filled(n int) api.Pic {
	var text strings.Builder
	for i := range n {
		text.WriteByte(byte('a' + i*7%26))
	}
	return under(text.String())
}

// off is a text that isn't begun.
func off() api.Pic { return api.Pic{} }

// roomy is a text whose row has room behind its end, with other signs in it.
func roomy(p api.Pic) api.Pic {
	row := make([]byte, len(p.B), len(p.B)+200)
	copy(row, p.B)
	behind := row[len(row):cap(row)]
	for i := range behind {
		behind[i] = '!'
	}
	return api.Pic{B: row, On: p.On}
}

// deep is a text that shares nothing with another one, not even room behind its row.
func deep(p api.Pic) api.Pic { return api.Pic{B: append([]byte{}, p.B...), On: p.On} }

// whole is deep, with the room behind the row.
func whole(p api.Pic) api.Pic { return deep(api.Pic{B: p.B[:cap(p.B)], On: p.On}) }

// alike holds two texts against each other, signs and all.
func alike(a, b api.Pic) bool { return reflect.DeepEqual(deep(a), deep(b)) }

// starts are texts of all kinds: not begun, with no signs, with some, with nearly all, and full.
func starts() []api.Pic {
	return []api.Pic{off(), under(""), under("x"), under("-12"), filled(64), filled(128), filled(129), filled(130)}
}

// bases are all bases that there are.
func bases() []int {
	var out []int
	for base := 2; base <= 36; base++ {
		out = append(out, base)
	}
	return out
}

// noBases are numbers that are none, each side of those that are, and far from them: also such whose lowest bits are a base.
func noBases() []int {
	return []int{0, 1, 37, 38, 64, 256 + 10, 1<<32 + 10, -1, -2, -10, -16, -256 + 10, -1<<32 + 10, least, least + 1, least + 10, most - 1, most}
}

// cells are numbers of all kinds: noughts, signs, bytes, ends.
func cells() []int {
	return []int{0, 1, -1, 2, -2, 9, 10, -10, 35, 36, 37, 255, -255, 256, -256, 1 << 32, -1 << 32, 0x0123456789abcdef, -0x0123456789abcdef, least, least + 1, most - 1, most}
}

// highs are high cells of pairs: those cells, and such as are near a base.
func highs(base int) []int { return append(cells(), base-1, base, base+1, -base) }

// pair is a pair of cells without a sign, as a whole number of any size.
func pair(lo, hi int) *big.Int {
	n := new(big.Int).SetUint64(uint64(hi))
	n.Lsh(n, 64)
	return n.Or(n, new(big.Int).SetUint64(uint64(lo)))
}

// cellsOf is a whole number's pair: the low cell, the high one.
func cellsOf(n *big.Int) (int, int) {
	low := new(big.Int).And(n, new(big.Int).SetUint64(math.MaxUint64))
	return int(low.Uint64()), int(new(big.Int).Rsh(n, 64).Uint64())
}

// inDigits is a pair in digits of a base, by whole numbers of any size.
func inDigits(lo, hi, base int) string { return strings.ToUpper(pair(lo, hi).Text(base)) }

// expect holds a text and a code against what they should be.
func expect(t *testing.T, what string, got api.Pic, code api.Throw, want api.Pic, wantCode api.Throw) {
	t.Helper()
	if code != wantCode {
		t.Errorf("%s: code %d, want %d", what, code, wantCode)
	}
	if !alike(got, want) {
		t.Errorf("%s: %q, %v, want %q, %v", what, got.B, got.On, want.B, want.On)
	}
}

// args is what a call is told by.
func args(name string, numbers ...int) string {
	for _, n := range numbers {
		name += " " + strconv.Itoa(n)
	}
	return name
}

// held is a text with signs ahead of those that it has; it has to have room for them.
func held(t *testing.T, p api.Pic, ahead string) api.Pic {
	t.Helper()
	for i := len(ahead) - 1; i >= 0; i-- {
		next, code := Hold(p, int(ahead[i]))
		if code != api.OK {
			t.Fatal("Hold:", code)
		}
		p = next
	}
	return p
}

// P7.1

func TestBeginIsOnWithNoSigns(t *testing.T) {
	for range 2 {
		if p := Begin(); !p.On || len(p.B) != 0 {
			t.Error(p)
		}
	}
	if !Right(Begin()) || !Same(Begin(), Begin()) || Same(Begin(), off()) {
		t.Error("what is begun")
	}
}

func TestRight(t *testing.T) {
	for n := range 300 {
		if got, want := Right(filled(n)), n <= 130; got != want {
			t.Errorf("Right of %d signs: %v", n, got)
		}
		p := filled(n)
		p.On = false
		if got, want := Right(p), n == 0; got != want {
			t.Errorf("Right of %d signs, not On: %v", n, got)
		}
	}
	if Right(filled(1<<16)) || !Right(off()) || !Right(api.Pic{B: []byte{}}) {
		t.Error("Right of many, or none")
	}
	if !Right(roomy(filled(130))) || !Right(api.Pic{B: make([]byte, 0, 9)}) {
		t.Error("Right looks at room")
	}
}

// What the signs are is nothing to it.
func TestRightOfAnySigns(t *testing.T) {
	for c := range 256 {
		if !Right(api.Pic{B: []byte{byte(c)}, On: true}) || Right(api.Pic{B: []byte{byte(c)}}) {
			t.Error(c)
		}
	}
}

func TestSameHoldsAllOfIt(t *testing.T) {
	for _, x := range []struct {
		a, b api.Pic
		same bool
	}{
		{off(), off(), true}, {under(""), under(""), true}, {under("a"), under("a"), true}, {filled(130), filled(130), true}, {filled(131), filled(131), true},
		// In On alone.
		{off(), under(""), false}, {under("a"), api.Pic{B: []byte("a")}, false}, {filled(130), api.Pic{B: filled(130).B}, false}, {filled(131), api.Pic{B: filled(131).B}, false},
		// Such as aren't right.
		{api.Pic{B: []byte("a")}, api.Pic{B: []byte("a")}, true}, {api.Pic{B: []byte("a")}, api.Pic{B: []byte("b")}, false}, {api.Pic{B: []byte("a")}, off(), false},
		// In a sign, a length, an order.
		{under("a"), under("b"), false}, {under("a"), under("A"), false}, {under("a"), under(""), false}, {under("a"), under("aa"), false}, {under("ab"), under("ba"), false},
		{under("abc"), under("abd"), false}, {under("abc"), under("xbc"), false}, {under("abc"), under("ab"), false}, {under("abc"), under("bc"), false},
		{filled(130), filled(129), false}, {filled(131), filled(130), false}, {under("\x00"), under(""), false}, {under("\x00"), under("\xff"), false}, {under("\x80"), under("\xff"), false},
		// A list without elements may be nil; room behind a row is none of it.
		{api.Pic{B: []byte{}, On: true}, under(""), true}, {api.Pic{B: []byte{}}, off(), true}, {roomy(under("ab")), under("ab"), true}, {roomy(under("ab")), roomy(under("ac")), false},
	} {
		if Same(x.a, x.b) != x.same || Same(x.b, x.a) != x.same {
			t.Errorf("Same of %q, %v and %q, %v isn't %v", x.a.B, x.a.On, x.b.B, x.b.On, x.same)
		}
	}
}

func TestSameOfEachSignOfAFullText(t *testing.T) {
	p := filled(130)
	for i := range p.B {
		other := deep(p)
		other.B[i]++
		if Same(p, other) || Same(other, p) || !Same(other, deep(other)) {
			t.Error(i)
		}
	}
}

func TestEnd(t *testing.T) {
	for _, text := range []string{"", "a", "ab", "aba", "-123", "\x00\xff\x80", strings.Repeat("01", 65), strings.Repeat("x", 129) + "y"} {
		if got, code := End(under(text)); got != text || code != api.OK {
			t.Errorf("End of %q: %q, %d", text, got, code)
		}
	}
	for n := range 131 {
		var text string
		for _, c := range filled(n).B {
			text = string(rune(c)) + text
		}
		if got, code := End(filled(n)); got != text || code != api.OK {
			t.Errorf("End of %d signs: %q, %d", n, got, code)
		}
	}
	for _, p := range []api.Pic{off(), {B: []byte{}}, {B: make([]byte, 0, 9)}} {
		if got, code := End(p); got != "" || code != api.PicFull {
			t.Error(got, code)
		}
	}
	if got, code := End(Begin()); got != "" || code != api.OK {
		t.Error(got, code)
	}
}

// A sign is a byte: no text is read as others than its bytes.
func TestEndOfEachSign(t *testing.T) {
	for c := range 256 {
		p := api.Pic{B: []byte{byte(c), 0xc3, byte(c), '('}, On: true}
		want := string([]byte{'(', byte(c), 0xc3, byte(c)})
		if got, code := End(p); got != want || code != api.OK {
			t.Errorf("%q, %d, want %q", got, code, want)
		}
	}
}

func TestEndLeavesTheTextToGoOnWith(t *testing.T) {
	p := held(t, Begin(), "23")
	End(p)
	p = held(t, p, "1")
	if got, code := End(p); got != "123" || code != api.OK {
		t.Error(got, code)
	}
}

// P7.2

func TestHoldOfEachByte(t *testing.T) {
	for c := range 256 {
		got, code := Hold(under("xy"), c)
		expect(t, args("Hold", c), got, code, api.Pic{B: []byte{'y', 'x', byte(c)}, On: true}, api.OK)
	}
}

func TestHoldTakesTheLowestBits(t *testing.T) {
	for _, x := range []struct {
		c    int
		want byte
	}{
		{256, 0}, {257, 1}, {256 + 'A', 'A'}, {511, 255}, {512, 0}, {65535, 255}, {65536 + 7, 7}, {1<<32 + 'z', 'z'}, {0x0123456789abcdef, 0xef},
		{-1, 255}, {-2, 254}, {-128, 128}, {-255, 1}, {-256, 0}, {-257, 255}, {-1<<32 + 9, 9}, {least, 0}, {least + 5, 5}, {most, 255}, {most - 1, 254},
	} {
		got, code := Hold(under("q"), x.c)
		expect(t, args("Hold", x.c), got, code, api.Pic{B: []byte{'q', x.want}, On: true}, api.OK)
	}
}

func TestHoldUpToFull(t *testing.T) {
	p := Begin()
	for n := range 130 {
		next, code := Hold(p, n)
		if code != api.OK || len(next.B) != n+1 || !next.On || !Right(next) {
			t.Fatal(n, next, code)
		}
		for i, c := range next.B {
			if int(c) != i {
				t.Fatal(n, next.B)
			}
		}
		p = next
	}
	for _, c := range cells() {
		got, code := Hold(p, c)
		expect(t, args("Hold of a full text", c), got, code, p, api.PicFull)
	}
}

func TestHoldAt129And130AndNotOn(t *testing.T) {
	for _, c := range append(cells(), 'a', 0, 128) {
		got, code := Hold(filled(129), c)
		want := deep(filled(129))
		want.B = append(want.B, byte(uint64(c)&255))
		expect(t, args("Hold at 129", c), got, code, want, api.OK)
		got, code = Hold(filled(130), c)
		expect(t, args("Hold at 130", c), got, code, filled(130), api.PicFull)
		got, code = Hold(off(), c)
		expect(t, args("Hold, not On", c), got, code, off(), api.PicFull)
		got, code = Hold(api.Pic{B: make([]byte, 0, 9)}, c)
		expect(t, args("Hold, not On, with room", c), got, code, off(), api.PicFull)
	}
}

// Signs count, not room that a row has behind them.
func TestHoldLooksAtSignsNotAtRoom(t *testing.T) {
	got, code := Hold(roomy(filled(129)), 'x')
	want, _ := Hold(filled(129), 'x')
	expect(t, "Hold, with room", got, code, want, api.OK)
	got, code = Hold(roomy(filled(130)), 'x')
	expect(t, "Hold of a full one, with room", got, code, filled(130), api.PicFull)
}

// P7.3

// digitAnswer is what Digit answers.
type digitAnswer struct {
	p      api.Pic
	lo, hi int
	code   api.Throw
}

// digit is an answer of a call's results.
func digit(p api.Pic, lo, hi int, code api.Throw) digitAnswer { return digitAnswer{p, lo, hi, code} }

// digitByHand is what the chapter says, by whole numbers of any size.
func digitByHand(p api.Pic, lo, hi, base int) digitAnswer {
	if base < 2 || base > 36 {
		return digitAnswer{p, lo, hi, api.BadNumber}
	}
	if !p.On || len(p.B) == 130 {
		return digitAnswer{p, lo, hi, api.PicFull}
	}
	quotient, rest := new(big.Int).QuoRem(pair(lo, hi), big.NewInt(int64(base)), new(big.Int))
	out := deep(p)
	out.B = append(out.B, signs[rest.Int64()])
	low, high := cellsOf(quotient)
	return digitAnswer{out, low, high, api.OK}
}

// expectDigit holds Digit's answer against what it should be.
func expectDigit(t *testing.T, p api.Pic, lo, hi, base int, want digitAnswer) {
	t.Helper()
	got := digit(Digit(p, lo, hi, base))
	what := args("Digit", lo, hi, base)
	expect(t, what, got.p, got.code, want.p, want.code)
	if got.lo != want.lo || got.hi != want.hi {
		t.Errorf("%s: leaves %d, %d, want %d, %d", what, got.lo, got.hi, want.lo, want.hi)
	}
}

func TestDigitByExample(t *testing.T) {
	for _, x := range []struct {
		lo, hi, base int
		sign         string
		low, high    int
	}{
		{0, 0, 10, "0", 0, 0}, {9, 0, 10, "9", 0, 0}, {10, 0, 10, "0", 1, 0}, {123, 0, 10, "3", 12, 0},
		{1, 0, 2, "1", 0, 0}, {2, 0, 2, "0", 1, 0}, {255, 0, 16, "F", 15, 0}, {35, 0, 36, "Z", 0, 0}, {36, 0, 36, "0", 1, 0}, {71, 0, 36, "Z", 1, 0},
		// The high cell 1: 2^64.
		{0, 1, 10, "6", 1844674407370955161, 0}, {0, 1, 2, "0", least, 0}, {0, 1, 16, "0", 1 << 60, 0}, {1, 1, 2, "1", least, 0},
		// As great as the base less one, and the base.
		{0, 9, 10, "4", -1844674407370955162, 0}, {0, 10, 10, "0", 0, 1}, {7, 10, 10, "7", 0, 1}, {0, 11, 10, "6", 1844674407370955161, 1},
		{0, 15, 16, "0", -1 << 60, 0}, {0, 16, 16, "0", 0, 1}, {3, 17, 16, "3", 1 << 60, 1}, {0, 35, 36, "K", -512409557603043101, 0}, {0, 36, 36, "0", 0, 1},
		// The greatest one, and cells below 0, read without a sign in both places.
		{-1, -1, 2, "1", -1, most}, {-1, -1, 16, "F", -1, 1<<60 - 1}, {-1, 0, 10, "5", 1844674407370955161, 0}, {-1, 0, 16, "F", 1<<60 - 1, 0},
		{least, 0, 2, "0", 1 << 62, 0}, {0, least, 2, "0", 0, 1 << 62}, {-2, 0, 2, "0", most, 0}, {0, -1, 16, "0", -1 << 60, 1<<60 - 1}, {most, most, 2, "1", -1<<62 - 1, 1<<62 - 1},
	} {
		expectDigit(t, under("q"), x.lo, x.hi, x.base, digitAnswer{under(x.sign + "q"), x.low, x.high, api.OK})
		// The examples themselves are held against whole numbers of any size.
		if by := digitByHand(under("q"), x.lo, x.hi, x.base); !alike(by.p, under(x.sign+"q")) || by.lo != x.low || by.hi != x.high {
			t.Error("example", x, by)
		}
	}
}

func TestDigitOfAllKindsOfPairsInEachBase(t *testing.T) {
	for _, base := range bases() {
		for _, hi := range highs(base) {
			for _, lo := range append(cells(), base-1, base, base+1, -base) {
				for _, p := range []api.Pic{under(""), under("-1"), filled(129)} {
					expectDigit(t, p, lo, hi, base, digitByHand(p, lo, hi, base))
				}
			}
		}
	}
}

func TestDigitOfManyPairs(t *testing.T) {
	r := rand.New(rand.NewSource(7))
	for range 20000 {
		lo, hi := int(r.Uint64()), int(r.Uint64()>>r.Intn(65))
		base := 2 + r.Intn(35)
		expectDigit(t, under("-"), lo, hi, base, digitByHand(under("-"), lo, hi, base))
	}
}

// BadNumber comes first, also where the text has no room; else PicFull.
func TestDigitsCodesInTheirOrder(t *testing.T) {
	for _, lo := range cells() {
		for _, hi := range cells() {
			for _, p := range []api.Pic{off(), under(""), filled(129), filled(130)} {
				for _, base := range noBases() {
					expectDigit(t, p, lo, hi, base, digitAnswer{p, lo, hi, api.BadNumber})
				}
			}
			for _, p := range []api.Pic{off(), filled(130)} {
				for _, base := range bases() {
					expectDigit(t, p, lo, hi, base, digitAnswer{p, lo, hi, api.PicFull})
				}
			}
		}
	}
}

// P7.4

// allByHand is what the chapter says, by whole numbers of any size.
func allByHand(p api.Pic, lo, hi, base int) (api.Pic, api.Throw) {
	if base < 2 || base > 36 {
		return p, api.BadNumber
	}
	digits := inDigits(lo, hi, base)
	if !p.On || len(p.B)+len(digits) > 130 {
		return p, api.PicFull
	}
	out := deep(p)
	out.B = append(out.B, under(digits).B...)
	return out, api.OK
}

// expectAll holds All's answer against what it should be.
func expectAll(t *testing.T, p api.Pic, lo, hi, base int) {
	t.Helper()
	want, wantCode := allByHand(p, lo, hi, base)
	got, code := All(p, lo, hi, base)
	expect(t, args("All", lo, hi, base), got, code, want, wantCode)
}

func TestAllByExample(t *testing.T) {
	for _, x := range []struct {
		lo, hi, base int
		want         string
	}{
		{0, 0, 10, "0"}, {0, 0, 2, "0"}, {0, 0, 36, "0"}, {1, 0, 2, "1"}, {9, 0, 10, "9"}, {35, 0, 36, "Z"},
		{10, 0, 10, "10"}, {123, 0, 10, "123"}, {100, 0, 10, "100"}, {255, 0, 16, "FF"}, {5, 0, 2, "101"},
		{-1, 0, 10, "18446744073709551615"}, {0, 1, 10, "18446744073709551616"}, {-1, 0, 16, "FFFFFFFFFFFFFFFF"}, {0, 1, 16, "10000000000000000"}, {-1, 0, 2, strings.Repeat("1", 64)}, {0, 1, 2, "1" + strings.Repeat("0", 64)},
		{-1, -1, 2, strings.Repeat("1", 128)}, {-1, -1, 16, strings.Repeat("F", 32)}, {-1, -1, 10, "340282366920938463463374607431768211455"}, {-1, -1, 36, "F5LXX1ZZ5PNORYNQGLHZMSP33"},
		{least, 0, 10, "9223372036854775808"}, {0, least, 16, "8" + strings.Repeat("0", 31)},
	} {
		got, code := All(Begin(), x.lo, x.hi, x.base)
		expect(t, args("All", x.lo, x.hi, x.base), got, code, under(x.want), api.OK)
		got, code = All(under("kg"), x.lo, x.hi, x.base)
		if len(x.want) <= 128 {
			expect(t, args("All ahead of kg", x.lo, x.hi, x.base), got, code, under(x.want+"kg"), api.OK)
		}
	}
}

func TestAllOfAllKindsOfPairsInEachBase(t *testing.T) {
	for _, base := range append(bases(), noBases()...) {
		for _, hi := range highs(base) {
			for _, lo := range append(cells(), base-1, base) {
				for _, p := range starts() {
					expectAll(t, p, lo, hi, base)
				}
			}
		}
	}
}

func TestAllOfManyPairs(t *testing.T) {
	r := rand.New(rand.NewSource(74))
	for range 5000 {
		lo, hi := int(r.Uint64()), int(r.Uint64()>>r.Intn(65))
		expectAll(t, filled(r.Intn(131)), lo, hi, 2+r.Intn(35))
	}
}

// The greatest pair has 128 digits in base 2: two signs ahead of it have room, three have not.
func TestAllOfTheGreatestPairUpToFull(t *testing.T) {
	ones := strings.Repeat("1", 128)
	for n, code := range []api.Throw{api.OK, api.OK, api.OK, api.PicFull, api.PicFull} {
		p := filled(n)
		want := p
		if code == api.OK {
			end, _ := End(p)
			want = under(ones + end)
		}
		got, gotCode := All(p, -1, -1, 2)
		expect(t, args("All behind", n), got, gotCode, want, code)
	}
}

// Without room in the midst of a number the text is as it was: none of its digits is left.
func TestAllWithoutRoomLeavesTheTextAsItWas(t *testing.T) {
	for room := range 9 {
		p := filled(130 - room)
		got, code := All(p, 1234567, 0, 10)
		if room < 7 {
			expect(t, args("All with room", room), got, code, filled(130-room), api.PicFull)
			continue
		}
		end, _ := End(p)
		expect(t, args("All with room", room), got, code, under("1234567"+end), api.OK)
	}
}

// P7.5

func TestSign(t *testing.T) {
	for _, n := range cells() {
		for _, p := range starts() {
			want, wantCode := p, api.OK
			if n < 0 {
				want, wantCode = Hold(p, 45)
			}
			got, code := Sign(p, n)
			expect(t, args("Sign", n), got, code, want, wantCode)
		}
	}
}

func TestSignByExample(t *testing.T) {
	for _, x := range []struct {
		p    api.Pic
		n    int
		want api.Pic
		code api.Throw
	}{
		{under("5"), -1, under("-5"), api.OK}, {under("5"), least, under("-5"), api.OK}, {under(""), -7, under("-"), api.OK}, {under("-5"), -1, under("--5"), api.OK},
		{under("5"), 0, under("5"), api.OK}, {under("5"), 1, under("5"), api.OK}, {under("5"), most, under("5"), api.OK}, {under(""), 0, under(""), api.OK},
		// Without room, and not On: no sign is laid, and no code comes, of a cell that isn't below 0.
		{filled(130), 0, filled(130), api.OK}, {filled(130), 1, filled(130), api.OK}, {off(), 0, off(), api.OK}, {off(), most, off(), api.OK},
		{filled(130), -1, filled(130), api.PicFull}, {filled(130), least, filled(130), api.PicFull}, {off(), -1, off(), api.PicFull}, {off(), least, off(), api.PicFull},
	} {
		got, code := Sign(x.p, x.n)
		expect(t, args("Sign", x.n), got, code, x.want, x.code)
	}
	end, _ := End(filled(129))
	got, code := Sign(filled(129), -1)
	expect(t, "Sign at 129", got, code, under("-"+end), api.OK)
}

// P7.6

func TestAllOfACellIsUShow(t *testing.T) {
	for _, base := range append(bases(), noBases()...) {
		for _, n := range append(cells(), base, base-1, -base) {
			want, wantCode := num.UShow(n, base)
			p, code := All(Begin(), n, 0, base)
			got, endCode := End(p)
			if got != want || code != wantCode || endCode != api.OK {
				t.Errorf("of %d in base %d: %q, %d, want %q, %d", n, base, got, code, want, wantCode)
			}
		}
	}
}

func TestAllIsDigitAsOftenAsThereAreDigits(t *testing.T) {
	for _, base := range bases() {
		for _, hi := range highs(base) {
			for _, lo := range cells() {
				p, low, high := under("k"), lo, hi
				for range inDigits(lo, hi, base) {
					var code api.Throw
					p, low, high, code = Digit(p, low, high, base)
					if code != api.OK {
						t.Fatal(code)
					}
				}
				got, code := All(under("k"), lo, hi, base)
				expect(t, args("All", lo, hi, base), got, code, p, api.OK)
				if low != 0 || high != 0 {
					t.Error(lo, hi, base, low, high)
				}
			}
		}
	}
}

func TestWhatIsPutTogetherIsParsed(t *testing.T) {
	for _, base := range bases() {
		for _, n := range cells() {
			p, _ := All(Begin(), n, 0, base)
			text, _ := End(p)
			if got, told := num.Parse(text, base); got != n || !told {
				t.Error(n, base, text, got)
			}
		}
	}
}

// Examples

func TestTheChaptersExample(t *testing.T) {
	p, code := All(Begin(), 123, 0, 10)
	if code != api.OK {
		t.Fatal(code)
	}
	p, code = Sign(p, -1)
	if code != api.OK {
		t.Fatal(code)
	}
	if got, code := End(p); got != "-123" || code != api.OK {
		t.Error(got, code)
	}
}

// R3 and R4

// calls is each call that answers a text, by some arguments that go well and some that don't.
func calls() []func(p api.Pic) (api.Pic, api.Throw) {
	digit := func(lo, hi, base int) func(api.Pic) (api.Pic, api.Throw) {
		return func(p api.Pic) (api.Pic, api.Throw) {
			out, _, _, code := Digit(p, lo, hi, base)
			return out, code
		}
	}
	all := func(lo, hi, base int) func(api.Pic) (api.Pic, api.Throw) {
		return func(p api.Pic) (api.Pic, api.Throw) { return All(p, lo, hi, base) }
	}
	return []func(api.Pic) (api.Pic, api.Throw){
		func(p api.Pic) (api.Pic, api.Throw) { return Hold(p, 'h') },
		func(p api.Pic) (api.Pic, api.Throw) { return Hold(p, 'H') },
		func(p api.Pic) (api.Pic, api.Throw) { return Sign(p, -1) },
		func(p api.Pic) (api.Pic, api.Throw) { return Sign(p, 1) },
		digit(7, 1, 10), digit(5, 0, 16), digit(5, 0, 37),
		all(1234, 0, 10), all(-1, -1, 2), all(99, 7, 36), all(1, 0, 1),
		func(p api.Pic) (api.Pic, api.Throw) { return p, second(End(p)) },
	}
}

// second is what comes behind a text.
func second(_ string, code api.Throw) api.Throw { return code }

func TestNoCallChangesWhatItIsHanded(t *testing.T) {
	for _, start := range starts() {
		for i, call := range calls() {
			for _, p := range []api.Pic{deep(start), roomy(start)} {
				was := whole(p)
				got, code := call(p)
				kept := deep(got)
				again, againCode := call(p)
				if !alike(whole(p), was) {
					t.Errorf("call %d changed what it was handed", i)
				}
				if code != againCode || !alike(got, kept) || !alike(again, kept) {
					t.Errorf("call %d answered another thing the second time", i)
				}
			}
		}
	}
	a, b := roomy(under("ab")), roomy(under("ac"))
	wasA, wasB := whole(a), whole(b)
	Same(a, b)
	Right(a)
	if !alike(whole(a), wasA) || !alike(whole(b), wasB) {
		t.Error("Same or Right changed what it was handed")
	}
}

// Each two calls on one text, and on what the first one answered.
func TestWhatACallAnsweredIsNotChangedByALaterOne(t *testing.T) {
	for _, start := range starts() {
		for i, first := range calls() {
			for j, later := range calls() {
				for _, p := range []api.Pic{deep(start), roomy(start)} {
					got, _ := first(p)
					kept := deep(got)
					other, _ := later(p)
					keptOther := deep(other)
					next, _ := later(got)
					keptNext := deep(next)
					first(got)
					if !alike(got, kept) || !alike(other, keptOther) || !alike(next, keptNext) {
						t.Errorf("calls %d and %d share what they answer", i, j)
					}
				}
			}
		}
	}
}

func TestTwoHoldsOnOneText(t *testing.T) {
	for n := range 130 {
		for _, p := range []api.Pic{filled(n), roomy(filled(n))} {
			a, _ := Hold(p, 'a')
			b, _ := Hold(p, 'b')
			if a.B[n] != 'a' || b.B[n] != 'b' || !alike(p, filled(n)) {
				t.Error(n)
			}
			c, _ := Hold(a, 'c')
			d, _ := Hold(a, 'd')
			if n < 129 && (c.B[n+1] != 'c' || d.B[n+1] != 'd') {
				t.Error(n)
			}
		}
	}
}

// A text that End told stays as it is, whatever comes of the text under way.
func TestWhatEndToldStays(t *testing.T) {
	p := roomy(under("123"))
	got, _ := End(p)
	p.B[0] = 'x'
	if got != "123" {
		t.Error(got)
	}
}

func TestWhatIsAnsweredIsRight(t *testing.T) {
	for _, start := range starts() {
		for i, call := range calls() {
			if got, _ := call(start); !Right(got) {
				t.Error(i, start, got)
			}
		}
	}
}
