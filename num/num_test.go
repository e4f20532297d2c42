package num

import (
	"math"
	"math/big"
	"math/rand"
	"regexp"
	"strings"
	"testing"

	"detent/api"
)

const (
	least = math.MinInt
	most  = math.MaxInt
)

// signs are all digits, in their order.
const signs = "0123456789ABCDEFGHIJKLMNOPQRSTUVWXYZ"

// bases are all bases that there are.
func bases() []int {
	var out []int
	for base := 2; base <= 36; base++ {
		out = append(out, base)
	}
	return out
}

// noBases are numbers that are none, each side of those that are, and far from them: also such whose lowest bits are a base.
func noBases() []int {
	return []int{0, 1, 37, 38, 62, 64, 100, 256 + 10, 1<<32 + 10, -1, -2, -10, -16, -36, -256 + 10, -1<<32 + 10, least, least + 1, least + 10, most - 1, most}
}

// cells are numbers of all kinds: noughts, signs, bytes, ends.
func cells() []int {
	return []int{0, 1, -1, 2, -2, 9, 10, -10, 35, 36, 37, 255, -255, 256, -256, 1 << 32, -1 << 32, 0x0123456789abcdef, -0x0123456789abcdef, least, least + 1, least + 2, most - 2, most - 1, most}
}

// cellsIn are those, and each power of a base, the number one below it, and both below 0.
func cellsIn(base int) []int {
	out := cells()
	power := big.NewInt(1)
	for power.BitLen() <= 64 {
		n := int(power.Uint64())
		out = append(out, n, n-1, -n, 1-n)
		power.Mul(power, big.NewInt(int64(base)))
	}
	return out
}

// whole is a cell read without a sign, as a whole number of any size.
func whole(n int) *big.Int { return new(big.Int).SetUint64(uint64(n)) }

// round is the cell that a whole number of any size is, gone round at 2^64.
func round(n *big.Int) int {
	return int(new(big.Int).And(n, new(big.Int).SetUint64(math.MaxUint64)).Uint64())
}

// P6.1

func TestDigitOfEachNumber(t *testing.T) {
	for n := range len(signs) {
		if got := Digit(n); got != signs[n] {
			t.Errorf("Digit(%d) = %q, want %q", n, got, signs[n])
		}
	}
	for _, n := range []int{-1, -2, -10, -36, -256, 36, 37, 61, 62, 100, 255, 256, 256 + 7, 256 + 20, 1 << 32, 1<<32 + 5, -1<<32 + 5, least, least + 5, most - 5, most} {
		if got := Digit(n); got != '?' {
			t.Errorf("Digit(%d) = %q, want ?", n, got)
		}
	}
}

// worthByHand is what the chapter says of a sign.
func worthByHand(c byte, base int) (int, bool) {
	if base < 2 || base > 36 {
		return 0, false
	}
	for n := range base {
		if c == signs[n] || n >= 10 && c == signs[n]+32 {
			return n, true
		}
	}
	return 0, false
}

func TestWorthOfEachSignInEachBase(t *testing.T) {
	for _, base := range append(bases(), noBases()...) {
		for c := range 256 {
			want, wantIs := worthByHand(byte(c), base)
			if got, is := Worth(byte(c), base); got != want || is != wantIs {
				t.Errorf("Worth(%q, %d) = %d, %v, want %d, %v", byte(c), base, got, is, want, wantIs)
			}
		}
	}
}

func TestWorthByExample(t *testing.T) {
	for _, x := range []struct {
		c    byte
		base int
		want int
		is   bool
	}{
		{'0', 2, 0, true}, {'1', 2, 1, true}, {'2', 2, 0, false}, {'2', 3, 2, true},
		{'9', 10, 9, true}, {'9', 9, 0, false}, {'A', 10, 0, false}, {'a', 10, 0, false},
		{'A', 11, 10, true}, {'a', 11, 10, true}, {'F', 16, 15, true}, {'f', 16, 15, true}, {'G', 16, 0, false}, {'g', 16, 0, false},
		{'Z', 36, 35, true}, {'z', 36, 35, true}, {'Z', 35, 0, false}, {'z', 35, 0, false},
		// The signs next to digits.
		{'/', 36, 0, false}, {':', 36, 0, false}, {'@', 36, 0, false}, {'[', 36, 0, false}, {'`', 36, 0, false}, {'{', 36, 0, false},
		{'-', 36, 0, false}, {' ', 36, 0, false}, {'?', 36, 0, false}, {0, 36, 0, false}, {1, 36, 0, false},
		// Signs above 127, also those whose lowest seven bits are a digit's.
		{127, 36, 0, false}, {128, 36, 0, false}, {'0' + 128, 36, 0, false}, {'A' + 128, 36, 0, false}, {'a' + 128, 36, 0, false}, {255, 36, 0, false},
		// Bases that there aren't.
		{'0', 1, 0, false}, {'0', 0, 0, false}, {'0', -1, 0, false}, {'0', 37, 0, false}, {'Z', 37, 0, false}, {'0', least, 0, false}, {'0', most, 0, false},
	} {
		if got, is := Worth(x.c, x.base); got != x.want || is != x.is {
			t.Errorf("Worth(%q, %d) = %d, %v, want %d, %v", x.c, x.base, got, is, x.want, x.is)
		}
	}
}

func TestDigitsAreWorthTheirNumbers(t *testing.T) {
	for _, base := range bases() {
		for n := range 36 {
			got, is := Worth(Digit(n), base)
			if is != (n < base) || is && got != n {
				t.Error(n, base, got, is)
			}
		}
	}
}

// P6.2

// expectParse holds a text in a base against the cell that it should tell.
func expectParse(t *testing.T, s string, base, want int) {
	t.Helper()
	if got, told := Parse(s, base); got != want || !told {
		t.Errorf("Parse(%q, %d) = %d, %v, want %d", s, base, got, told, want)
	}
}

// expectNone holds a text in a base against its telling no cell.
func expectNone(t *testing.T, s string, base int) {
	t.Helper()
	if got, told := Parse(s, base); got != 0 || told {
		t.Errorf("Parse(%q, %d) = %d, %v, want none", s, base, got, told)
	}
}

func TestParseByExample(t *testing.T) {
	for _, x := range []struct {
		s    string
		base int
		want int
	}{
		{"0", 10, 0}, {"7", 10, 7}, {"12", 3, 5}, {"12", 10, 12}, {"12", 36, 38}, {"101", 2, 5}, {"-12", 3, -5}, {"-0", 10, 0}, {"-1", 2, -1},
		// Great and small letters, and both in one text.
		{"FF", 16, 255}, {"ff", 16, 255}, {"fF", 16, 255}, {"-Ff", 16, -255}, {"Zz", 36, 35*36 + 35}, {"a0", 11, 110},
		// Noughts ahead.
		{"007", 10, 7}, {"-007", 10, -7}, {"000", 2, 0}, {"$00ff", 10, 255}, {strings.Repeat("0", 1000) + "12", 3, 5},
		// Marks.
		{"#12", 3, 12}, {"$12", 3, 18}, {"%10", 3, 2}, {"#-12", 16, -12}, {"$-1f", 10, -31}, {"$-1F", 10, -31}, {"%-101", 16, -5},
	} {
		expectParse(t, x.s, x.base, x.want)
	}
}

func TestParseTellsNone(t *testing.T) {
	for _, s := range []string{
		"",
		// Marks and minuses without a digit.
		"#", "$", "%", "-", "#-", "$-", "%-",
		// More of them than one, or in the wrong order.
		"--", "--1", "#--1", "-#1", "-$1f", "-%1", "-#", "##1", "$#1", "#$1", "%%1", "1-", "1-1", "1#", "1$", "1%", "-1-", "#1#",
		// Other signs ahead, among and behind digits.
		"+", "+1", "-+1", "+-1", "#+1", "#-+1", " ", " 1", "1 ", "1 2", "- 1", "# 1", "#- 1", "\t1", "1\n", "1\x00", "\x001",
		"1_0", "1,0", "1.0", "1.", ".1", "1/1", "1:1", "1@1", "1[1", "1`1", "1{1", "0b1", "&1", "(1)", "1'", "'1", "0x1G",
		// Signs above 127: bytes that are no text, and others whose lowest bits are a digit's.
		"\x80", "\xb1", "\xff", "1\xb1", "\xb11", "-\xb1", "#\xb1", "é", "1é", "é1", "\u0131", "\u0130", "\u0331", "\u0141", "\uff11", "\u0661", "\U00010031", "\ufffd", "1\u01311",
	} {
		for _, base := range []int{2, 3, 8, 10, 11} {
			expectNone(t, s, base)
		}
	}
}

func TestParseOfDigitsThatAreTheBaseOrMore(t *testing.T) {
	for _, base := range bases() {
		for n := range 36 {
			for _, sign := range []string{signs[n : n+1], strings.ToLower(signs[n : n+1])} {
				if n < base {
					expectParse(t, sign, base, n)
					expectParse(t, "-"+sign, base, -n)
					expectParse(t, "1"+sign, base, base+n)
					expectParse(t, sign+"1", base, n*base+1)
					continue
				}
				for _, s := range []string{sign, "-" + sign, "1" + sign, sign + "1", "1" + sign + "1"} {
					expectNone(t, s, base)
				}
			}
		}
	}
}

func TestParseLooksAtItsOwnMarksBase(t *testing.T) {
	for _, base := range append(bases(), noBases()...) {
		for n := range 36 {
			for mark, markBase := range map[string]int{"#": 10, "$": 16, "%": 2} {
				s := mark + signs[n:n+1]
				if n < markBase {
					expectParse(t, s, base, n)
					expectParse(t, mark+"-1"+strings.ToLower(signs[n:n+1]), base, -markBase-n)
				} else {
					expectNone(t, s, base)
					expectNone(t, mark+"-1"+strings.ToLower(signs[n:n+1]), base)
				}
			}
		}
	}
}

func TestParseInABaseThatThereIsnt(t *testing.T) {
	for _, base := range noBases() {
		for _, s := range []string{"", "-", "0", "-0", "00", "1", "-1", "12", "Z", "z", "-z", "#", "#-", "%2", "-#1"} {
			expectNone(t, s, base)
		}
		expectParse(t, "#-12", base, -12)
		expectParse(t, "$1f", base, 31)
		expectParse(t, "%-10", base, -2)
		expectParse(t, "'1'", base, 49)
	}
}

func TestParseOfASignBetweenQuotes(t *testing.T) {
	for _, base := range append(bases(), noBases()...) {
		for c := range 256 {
			s := "'" + string([]byte{byte(c)}) + "'"
			if c >= 33 && c <= 126 {
				expectParse(t, s, base, c)
			} else {
				expectNone(t, s, base)
			}
		}
	}
}

func TestParseOfQuotesByExample(t *testing.T) {
	for s, want := range map[string]int{"'A'": 65, "'a'": 97, "'!'": 33, "'~'": 126, "'''": 39, "'-'": 45, "'0'": 48, "'#'": 35} {
		expectParse(t, s, 10, want)
	}
	for _, s := range []string{
		"'", "''", "' '", "'\x7f'", "'\x80'", "'\xff'", "'\x1f'", "'\x00'", "'AB'", "''''", "'A", "A'", "'A''", "''A'", "'A' ", " 'A'", "-'A'", "'-A'", "#'A'", "'A'1", "1'A'",
		"'é'", "'\u0141'", "\"A\"", "`A`", "'A\"", "\"A'", "A'A", "'AA", "\u2019A\u2019",
	} {
		expectNone(t, s, 10)
		expectNone(t, s, 36)
	}
}

func TestParseGoesRound(t *testing.T) {
	for _, x := range []struct {
		s    string
		base int
		want int
	}{
		{"9223372036854775807", 10, most}, {"9223372036854775808", 10, least}, {"9223372036854775809", 10, least + 1},
		{"-9223372036854775807", 10, least + 1}, {"-9223372036854775808", 10, least}, {"-9223372036854775809", 10, most},
		{"18446744073709551614", 10, -2}, {"18446744073709551615", 10, -1}, {"18446744073709551616", 10, 0}, {"18446744073709551617", 10, 1},
		{"-18446744073709551615", 10, 1}, {"-18446744073709551616", 10, 0}, {"-18446744073709551617", 10, -1},
		{"ffffffffffffffff", 16, -1}, {"10000000000000000", 16, 0}, {"10000000000000001", 16, 1}, {"$-ffffffffffffffff", 10, 1}, {"$-10000000000000001", 10, -1},
		{"$1230000000000000001", 10, 0x0000000000000001}, {"$8000000000000000", 10, least}, {"$-8000000000000000", 10, least},
		{"%1" + strings.Repeat("0", 63), 10, least}, {"%1" + strings.Repeat("0", 64), 10, 0}, {"%" + strings.Repeat("1", 64), 10, -1}, {"%-" + strings.Repeat("1", 100), 10, 1},
		{"#340282366920938463463374607431768211463", 2, 7}, {strings.Repeat("1", 1000), 2, -1},
	} {
		expectParse(t, x.s, x.base, x.want)
	}
}

func TestParseAroundEachTurnInEachBase(t *testing.T) {
	turn := new(big.Int).Lsh(big.NewInt(1), 64)
	half := new(big.Int).Lsh(big.NewInt(1), 63)
	for _, base := range bases() {
		for _, middle := range []*big.Int{half, turn, new(big.Int).Mul(turn, half), new(big.Int).Mul(turn, big.NewInt(int64(base)))} {
			for far := -40; far <= 40; far++ {
				n := new(big.Int).Add(middle, big.NewInt(int64(far)))
				expectParse(t, n.Text(base), base, round(n))
				expectParse(t, "-"+strings.ToUpper(n.Text(base)), base, -round(n))
			}
		}
	}
}

// told is what a text of a mark, a minus and digits looks like.
var told = regexp.MustCompile(`^([#$%]?)(-?)([0-9A-Za-z]+)$`)

// parseByHand is what the chapter says of a text, by whole numbers of any size.
func parseByHand(s string, base int) (int, bool) {
	if len(s) == 3 && s[0] == 39 && s[2] == 39 && s[1] >= 33 && s[1] <= 126 {
		return int(s[1]), true
	}
	parts := told.FindStringSubmatch(s)
	if parts == nil {
		return 0, false
	}
	if marked, is := map[string]int{"#": 10, "$": 16, "%": 2}[parts[1]]; is {
		base = marked
	}
	if base < 2 || base > 36 {
		return 0, false
	}
	n, is := new(big.Int).SetString(parts[3], base)
	if !is {
		return 0, false
	}
	if parts[2] == "-" {
		n.Neg(n)
	}
	return round(n), true
}

// expectAsByHand holds what a text tells against what the chapter says.
func expectAsByHand(t *testing.T, s string, base int) {
	t.Helper()
	want, wantTold := parseByHand(s, base)
	if got, told := Parse(s, base); got != want || told != wantTold {
		t.Errorf("Parse(%q, %d) = %d, %v, want %d, %v", s, base, got, told, want, wantTold)
	}
}

func TestParseOfAllShortTexts(t *testing.T) {
	alphabet := []string{"0", "1", "2", "9", "A", "F", "G", "a", "f", "z", "#", "$", "%", "-", "+", "'", " ", "/", ":", "@", "[", "`", "{", "\x7f", "\xb1", "\u0131"}
	for _, base := range []int{least, -1, 0, 1, 2, 3, 10, 16, 36, 37, most} {
		expectAsByHand(t, "", base)
		for _, a := range alphabet {
			expectAsByHand(t, a, base)
			for _, b := range alphabet {
				expectAsByHand(t, a+b, base)
				for _, c := range alphabet {
					expectAsByHand(t, a+b+c, base)
				}
			}
		}
	}
}

func TestParseOfAllPairsOfBytes(t *testing.T) {
	for a := range 256 {
		for b := range 256 {
			s := string([]byte{byte(a), byte(b)})
			expectAsByHand(t, s, 10)
			expectAsByHand(t, s, 36)
		}
	}
}

func TestParseOfLongTexts(t *testing.T) {
	source := rand.New(rand.NewSource(6))
	alphabet := "0123456789abcdefABCDEFghzGHZ"
	for range 20000 {
		base := source.Intn(38)
		var b strings.Builder
		b.WriteString([]string{"", "", "#", "$", "%"}[source.Intn(5)])
		b.WriteString([]string{"", "", "-"}[source.Intn(3)])
		for range source.Intn(70) {
			b.WriteByte(alphabet[source.Intn(2+source.Intn(len(alphabet)-1))])
		}
		expectAsByHand(t, b.String(), base)
	}
}

// P6.3

// expectShown holds what both calls tell of a cell in a base against the chapter's words.
func expectShown(t *testing.T, n, base int) {
	t.Helper()
	want := strings.ToUpper(whole(n).Text(base))
	if got, code := UShow(n, base); got != want || code != api.OK {
		t.Errorf("UShow(%d, %d) = %q, %d, want %q", n, base, got, code, want)
	}
	want = strings.ToUpper(big.NewInt(int64(n)).Text(base))
	if got, code := Show(n, base); got != want || code != api.OK {
		t.Errorf("Show(%d, %d) = %q, %d, want %q", n, base, got, code, want)
	}
}

func TestShowInEachBase(t *testing.T) {
	source := rand.New(rand.NewSource(63))
	for _, base := range bases() {
		for _, n := range cellsIn(base) {
			expectShown(t, n, base)
		}
		for range 500 {
			expectShown(t, int(source.Uint64()>>source.Intn(64)), base)
		}
	}
}

func TestShowByExample(t *testing.T) {
	for _, x := range []struct {
		n, base    int
		show, bare string
	}{
		{0, 10, "0", "0"}, {0, 2, "0", "0"}, {0, 36, "0", "0"}, {1, 2, "1", "1"}, {2, 2, "10", "10"}, {5, 3, "12", "12"}, {35, 36, "Z", "Z"}, {36, 36, "10", "10"}, {255, 16, "FF", "FF"},
		{-255, 16, "-FF", "FFFFFFFFFFFFFF01"}, {-1, 10, "-1", "18446744073709551615"}, {-1, 16, "-1", "FFFFFFFFFFFFFFFF"}, {-1, 36, "-1", "3W5E11264SGSF"},
		{least, 10, "-9223372036854775808", "9223372036854775808"}, {least, 16, "-8000000000000000", "8000000000000000"},
		{least + 1, 10, "-9223372036854775807", "9223372036854775809"}, {most, 10, "9223372036854775807", "9223372036854775807"},
		{-1, 2, "-1", strings.Repeat("1", 64)}, {least, 2, "-1" + strings.Repeat("0", 63), "1" + strings.Repeat("0", 63)}, {most, 2, strings.Repeat("1", 63), strings.Repeat("1", 63)},
	} {
		if got, code := Show(x.n, x.base); got != x.show || code != api.OK {
			t.Errorf("Show(%d, %d) = %q, %d, want %q", x.n, x.base, got, code, x.show)
		}
		if got, code := UShow(x.n, x.base); got != x.bare || code != api.OK {
			t.Errorf("UShow(%d, %d) = %q, %d, want %q", x.n, x.base, got, code, x.bare)
		}
	}
}

func TestShowInABaseThatThereIsnt(t *testing.T) {
	for _, base := range noBases() {
		for _, n := range cells() {
			if got, code := Show(n, base); got != "" || code != api.BadNumber {
				t.Errorf("Show(%d, %d) = %q, %d", n, base, got, code)
			}
			if got, code := UShow(n, base); got != "" || code != api.BadNumber {
				t.Errorf("UShow(%d, %d) = %q, %d", n, base, got, code)
			}
		}
	}
}

// P6.4

// marks are the bases that have one.
func marks() map[int]string { return map[int]string{10: "#", 16: "$", 2: "%"} }

func TestWhatIsShownIsParsed(t *testing.T) {
	for _, base := range bases() {
		for _, n := range cellsIn(base) {
			signed, _ := Show(n, base)
			bare, _ := UShow(n, base)
			for _, s := range []string{signed, bare, strings.ToLower(signed), strings.ToLower(bare)} {
				expectParse(t, s, base, n)
				if mark := marks()[base]; mark != "" {
					for _, other := range append(bases(), noBases()...) {
						expectParse(t, mark+s, other, n)
					}
				}
			}
		}
	}
}

func TestCellsAreShownAlikeJustIfTheyAreTheSame(t *testing.T) {
	for _, base := range bases() {
		shown, bare := map[string]int{}, map[string]int{}
		for _, n := range append(cellsIn(base), cellsIn(base)...) {
			s, _ := Show(n, base)
			if other, was := shown[s]; was && other != n {
				t.Errorf("Show in base %d: %d and %d are both %q", base, n, other, s)
			}
			shown[s] = n
			s, _ = UShow(n, base)
			if other, was := bare[s]; was && other != n {
				t.Errorf("UShow in base %d: %d and %d are both %q", base, n, other, s)
			}
			bare[s] = n
		}
		expectManyTexts(t, base, shown, bare)
	}
}

// expectManyTexts holds the numbers of texts against that of cells: the same cell was always shown alike.
func expectManyTexts(t *testing.T, base int, shown, bare map[string]int) {
	t.Helper()
	different := map[int]bool{}
	for _, n := range cellsIn(base) {
		different[n] = true
	}
	if len(shown) != len(different) || len(bare) != len(different) {
		t.Errorf("base %d: %d cells are %d texts with a sign, %d without", base, len(different), len(shown), len(bare))
	}
}

// The rules that hold everywhere

// What a call answers hangs on its arguments alone, also behind calls of all other kinds.
func TestAnswersHangOnArgumentsAlone(t *testing.T) {
	first := func() (string, string, int, int) {
		bare, _ := UShow(-12345, 7)
		signed, _ := Show(-12345, 7)
		n, _ := Parse("-50664", 7)
		digit, _ := Worth('f', 16)
		return bare, signed, n, digit
	}
	bare, signed, n, digit := first()
	for _, base := range append(noBases(), bases()...) {
		_, _ = UShow(least, base)
		_, _ = Show(least, base)
		_, _ = Parse("$-1f", base)
		_, _ = Worth('z', base)
	}
	bareAgain, signedAgain, again, digitAgain := first()
	if bare != bareAgain || signed != signedAgain || n != again || digit != digitAgain {
		t.Error(bare, bareAgain, signed, signedAgain, n, again, digit, digitAgain)
	}
}

// The chapter's examples

func TestChaptersExamples(t *testing.T) {
	expectParse(t, "$-1f", 10, -31)
	expectParse(t, "'A'", 10, 65)
	expectParse(t, "12", 3, 5)
	if s, code := Show(-255, 16); s != "-FF" || code != api.OK {
		t.Error(s, code)
	}
}
