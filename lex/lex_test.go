package lex

import (
	"math"
	"math/rand"
	"regexp"
	"slices"
	"strings"
	"testing"
)

const (
	least = math.MinInt
	most  = math.MaxInt
)

// maxText is how many bytes the greatest texts of the tests have.
const maxText = 65536

// one is the text of one byte: string(c) would be a rune's.
func one(c byte) string { return string([]byte{c}) }

// allBytes is the text of each byte, in their order.
func allBytes() string {
	var out []byte
	for c := range 256 {
		out = append(out, byte(c))
	}
	return string(out)
}

// blanks are the bytes that are blanks, told one by one.
const blanks = "\x00\x01\x02\x03\x04\x05\x06\x07\x08\x09\x0a\x0b\x0c\x0d\x0e\x0f\x10\x11\x12\x13\x14\x15\x16\x17\x18\x19\x1a\x1b\x1c\x1d\x1e\x1f\x20"

// blankByHand: is a byte among those?
func blankByHand(c byte) bool { return strings.Contains(blanks, one(c)) }

// places are all places of a text, its end, and numbers that are no places of it, near and far, also such whose lowest bits are one.
func places(s string) []int {
	n := len(s)
	out := []int{-1, -2, -n, -n - 1, -n - 2, n + 1, n + 2, n + 9, 2*n + 1, 256 + n, 1<<16 + n, 1 << 31, 1 << 32, 1<<32 + 1, -1 << 32, -1<<32 + 1, least, least + 1, least + n, most - n, most - 1, most}
	for at := range n + 1 {
		out = append(out, at)
	}
	return out
}

// texts are texts of all kinds: none, blanks, words, marks, bytes above 127, signs of several bytes.
func texts() []string {
	return []string{
		"", " ", "x", "  ", "\t \n\x00", "\x00", "\xff", "\x7f", "\x80", "!",
		"x ", " x", " x ", "x  ", "  x", "  x  ", "xy", "x y", "x  y", " x y", "x y ", "  xy   z  ", "ab cd ef",
		": SQ DUP * ; 5 SQ .", "( a b -- c ) x", "ab\" c", "s\" ab \" type", "\"", "\"\"", "a\"\"b", "\t:\r\nx\n;\n",
		"é è", "日本 語", "a\xff b\x80", "\xc3 \xa9", "\x1f\x20\x21", "a\x00b\x00\x00c", "a\u00a0b\u0085c\u2028d", "\xe2\x80\x80",
		"@`[{AaZz", "\xe0\xc0\xfa\xda", "aBcXyZ09", "\x20\x00", "\x00 x",
		allBytes(), strings.Repeat(allBytes(), 2),
	}
}

// randomText is a text of some bytes, chosen from a few ones.
func randomText(r *rand.Rand, from string, n int) string {
	out := make([]byte, n)
	for i := range out {
		out[i] = from[r.Intn(len(from))]
	}
	return string(out)
}

// shortTexts are all texts of at most some bytes, of those in a row.
func shortTexts(from string, atMost int) []string {
	out := []string{""}
	last := out
	for range atMost {
		var next []string
		for _, s := range last {
			for i := range len(from) {
				next = append(next, s+from[i:i+1])
			}
		}
		out = append(out, next...)
		last = next
	}
	return out
}

// atByHand is where a call is asked at.
func atByHand(s string, at int) int {
	for n := range len(s) {
		if at == n {
			return n
		}
	}
	return len(s)
}

// noBlanks finds bytes in a row that are no blanks.
var noBlanks = regexp.MustCompile(`[^\x00-\x20]+`)

// P8.1

// wordByHand is what the chapter says of a word.
func wordByHand(s string, at int) (string, int) {
	at = atByHand(s, at)
	found := noBlanks.FindStringIndex(s[at:])
	if found == nil {
		return "", len(s)
	}
	from, to := at+found[0], at+found[1]
	if to == len(s) {
		return s[from:], len(s)
	}
	return s[from:to], to + 1
}

func expectWord(t *testing.T, s string, at int, want string, wantBehind int) {
	t.Helper()
	if got, behind := Word(s, at); got != want || behind != wantBehind {
		t.Errorf("Word(%q, %d) = %q, %d, want %q, %d", s, at, got, behind, want, wantBehind)
	}
}

func expectWordByHand(t *testing.T, s string, at int) {
	t.Helper()
	want, behind := wordByHand(s, at)
	expectWord(t, s, at, want, behind)
}

func TestWordByExample(t *testing.T) {
	for _, x := range []struct {
		s      string
		at     int
		word   string
		behind int
	}{
		{"", 0, "", 0},
		{" ", 0, "", 1},
		{"x", 0, "x", 1},
		{"   ", 0, "", 3},
		{"\t\n\x00 ", 0, "", 4},
		{" x", 0, "x", 2},
		{"   x", 0, "x", 4},
		{"x ", 0, "x", 2},
		{"x   ", 0, "x", 2},
		{"x y", 0, "x", 2},
		{"x   y", 0, "x", 2},
		{"x   y", 2, "y", 5},
		{"  xy z", 0, "xy", 5},
		{"xyz ab", 1, "yz", 4},
		{"xyz ab", 2, "z", 4},
		{"xyz ab", 3, "ab", 6},
		{"xyz ab", 4, "ab", 6},
		{"xyz ab", 5, "b", 6},
		{"xyz ab", 6, "", 6},
		{"xyz ab", 7, "", 6},
		{"xyz ab", -1, "", 6},
		{"xyz ab", least, "", 6},
		{"xyz ab", most, "", 6},
		{"xyz  ", 4, "", 5},
		{"a\tb\nc", 0, "a", 2},
		{"a\tb\nc", 2, "b", 4},
		{"a\u00a0b c", 0, "a\u00a0b", 5},
		{"日本 語", 0, "日本", 7},
		{"日本 語", 1, "\x97\xa5本", 7},
		{"(lit) 7", 0, "(lit)", 6},
	} {
		expectWord(t, x.s, x.at, x.word, x.behind)
	}
}

func TestWordOfEachByteAlone(t *testing.T) {
	for c := range 256 {
		s := one(byte(c))
		if c <= 32 {
			expectWord(t, s, 0, "", 1)
		} else {
			expectWord(t, s, 0, s, 1)
		}
		expectWord(t, s, 1, "", 1)
		expectWord(t, s, 2, "", 1)
		expectWord(t, s, -1, "", 1)
	}
}

func TestWordOfEachByteBetweenTwoOthers(t *testing.T) {
	for c := range 256 {
		s := "a" + one(byte(c)) + "b"
		if blankByHand(byte(c)) {
			expectWord(t, s, 0, "a", 2)
			expectWord(t, s, 1, "b", 3)
		} else {
			expectWord(t, s, 0, s, 3)
			expectWord(t, s, 1, s[1:], 3)
		}
		expectWord(t, s, 2, "b", 3)
	}
}

func TestWordOfEachByteBetweenTwoBlanks(t *testing.T) {
	for c := range 256 {
		s := " " + one(byte(c)) + " "
		if blankByHand(byte(c)) {
			expectWord(t, s, 0, "", 3)
		} else {
			expectWord(t, s, 0, s[1:2], 3)
		}
	}
}

func TestWordAtEachPlaceOfEachText(t *testing.T) {
	for _, s := range texts() {
		for _, at := range places(s) {
			expectWordByHand(t, s, at)
		}
	}
}

func TestWordOfAllShortTexts(t *testing.T) {
	for _, s := range shortTexts(" \x00x\xff", 6) {
		for at := -1; at <= len(s)+1; at++ {
			expectWordByHand(t, s, at)
		}
	}
}

func TestWordOfAllPairsOfBytes(t *testing.T) {
	for a := range 256 {
		for b := range 256 {
			s := one(byte(a)) + one(byte(b))
			expectWordByHand(t, s, 0)
			expectWordByHand(t, s, 1)
		}
	}
}

func TestWordOfLongTexts(t *testing.T) {
	words, empty := strings.Repeat("x", maxText), strings.Repeat(" ", maxText)
	expectWord(t, words, 0, words, maxText)
	expectWord(t, words, maxText-1, "x", maxText)
	expectWord(t, words, maxText, "", maxText)
	expectWord(t, empty, 0, "", maxText)
	expectWord(t, empty, maxText-1, "", maxText)
	expectWord(t, empty[1:]+"x", 0, "x", maxText)
	expectWord(t, words[1:]+" ", 0, words[1:], maxText)
	expectWord(t, words[2:]+" x", 0, words[2:], maxText-1)
	expectWord(t, words+" x", 0, words, maxText+1)
}

// P8.2

// uptoByHand is what the chapter says of a text up to a sign.
func uptoByHand(s string, at int, c byte) (string, int, bool) {
	at = atByHand(s, at)
	for n := at; n < len(s); n++ {
		if s[n:n+1] == one(c) {
			return s[at:n], n + 1, true
		}
	}
	return s[at:], len(s), false
}

func expectUpto(t *testing.T, s string, at int, c byte, want string, wantBehind int, wantThere bool) {
	t.Helper()
	if got, behind, there := Upto(s, at, c); got != want || behind != wantBehind || there != wantThere {
		t.Errorf("Upto(%q, %d, %q) = %q, %d, %v, want %q, %d, %v", s, at, c, got, behind, there, want, wantBehind, wantThere)
	}
}

func expectUptoByHand(t *testing.T, s string, at int, c byte) {
	t.Helper()
	want, behind, there := uptoByHand(s, at, c)
	expectUpto(t, s, at, c, want, behind, there)
}

func TestUptoByExample(t *testing.T) {
	for _, x := range []struct {
		s      string
		at     int
		c      byte
		text   string
		behind int
		there  bool
	}{
		{"", 0, '"', "", 0, false},
		{"\"", 0, '"', "", 1, true},
		{"\"", 1, '"', "", 1, false},
		{"ab\" c", 0, '"', "ab", 3, true},
		{"ab\" c", 1, '"', "b", 3, true},
		{"ab\" c", 2, '"', "", 3, true},
		{"ab\" c", 3, '"', " c", 5, false},
		{"ab\" c", 5, '"', "", 5, false},
		{"ab\" c", 6, '"', "", 5, false},
		{"ab\" c", -1, '"', "", 5, false},
		{"ab\" c", least, '"', "", 5, false},
		{"ab\" c", most, '"', "", 5, false},
		{"a\"b\"c\"", 0, '"', "a", 2, true},
		{"a\"b\"c\"", 2, '"', "b", 4, true},
		{"a\"b\"c\"", 4, '"', "c", 6, true},
		{"a\"b\"c\"", 6, '"', "", 6, false},
		{"a\"\"b", 0, '"', "a", 2, true},
		{"a\"\"b", 2, '"', "", 3, true},
		{"abc)", 0, ')', "abc", 4, true},
		{"abc", 0, ')', "abc", 3, false},
		{"abc", 1, 'a', "bc", 3, false},
		{"  ab c", 0, ' ', "", 1, true},
		{"ab c", 0, ' ', "ab", 3, true},
		{"a\x00b", 0, 0, "a", 2, true},
		{"a b", 0, 0, "a b", 3, false},
		{"a\xffb", 0, 255, "a", 2, true},
		{"aÿb", 0, 255, "aÿb", 4, false},
		{"aéb", 0, 0xa9, "a\xc3", 3, true},
		{"aéb", 0, 0xe9, "aéb", 4, false},
		{"a\ufffdb", 0, 0x80, "a\ufffdb", 5, false},
		{"a\xfeb", 0, 0xff, "a\xfeb", 3, false},
		{"aXx", 0, 'x', "aX", 3, true},
	} {
		expectUpto(t, x.s, x.at, x.c, x.text, x.behind, x.there)
	}
}

func TestUptoOfEachSignAtEachPlaceOfEachText(t *testing.T) {
	for _, s := range texts() {
		for _, at := range places(s) {
			for _, c := range []byte{0, 1, '\t', '\n', 31, ' ', '!', '"', ')', ';', 'a', 'b', 'x', 'X', 'y', '\\', 127, 128, 0xa9, 0xc3, 0xe9, 254, 255} {
				expectUptoByHand(t, s, at, c)
			}
		}
	}
}

func TestUptoOfEachByte(t *testing.T) {
	all := allBytes()
	for c := range 256 {
		sign := byte(c)
		expectUpto(t, all, 0, sign, all[:c], c+1, true)
		expectUpto(t, all, c, sign, "", c+1, true)
		expectUpto(t, all, c+1, sign, all[c+1:], 256, false)
		expectUpto(t, one(sign), 0, sign, "", 1, true)
		for d := range 256 {
			if d != c {
				expectUpto(t, one(byte(d)), 0, sign, one(byte(d)), 1, false)
			}
		}
	}
}

func TestUptoOfAllShortTexts(t *testing.T) {
	for _, s := range shortTexts(" \x00x\xff", 5) {
		for at := -1; at <= len(s)+1; at++ {
			for _, c := range []byte(" \x00x\xff\"X") {
				expectUptoByHand(t, s, at, c)
			}
		}
	}
}

func TestUptoOfLongTexts(t *testing.T) {
	s := strings.Repeat("x", maxText-1) + "\""
	expectUpto(t, s, 0, '"', s[:maxText-1], maxText, true)
	expectUpto(t, s, maxText-1, '"', "", maxText, true)
	expectUpto(t, s, maxText, '"', "", maxText, false)
	expectUpto(t, s, 0, 'y', s, maxText, false)
	expectUpto(t, s, 7, 'y', s[7:], maxText, false)
	expectUpto(t, s, 7, 'x', "", 8, true)
}

// P8.3

func expectWords(t *testing.T, s string, want ...string) {
	t.Helper()
	if got := Words(s); !slices.Equal(got, want) {
		t.Errorf("Words(%q) = %q, want %q", s, got, want)
	}
}

func TestWordsByExample(t *testing.T) {
	expectWords(t, "")
	expectWords(t, " ")
	expectWords(t, "    ")
	expectWords(t, blanks)
	expectWords(t, "x", "x")
	expectWords(t, " x", "x")
	expectWords(t, "x ", "x")
	expectWords(t, "   x   ", "x")
	expectWords(t, "DUP", "DUP")
	expectWords(t, "x y", "x", "y")
	expectWords(t, "x    y", "x", "y")
	expectWords(t, "  x  y  ", "x", "y")
	expectWords(t, "\x00x\ny\t\tz\r\n", "x", "y", "z")
	expectWords(t, "x"+blanks+"y", "x", "y")
	expectWords(t, "x X x", "x", "X", "x")
	expectWords(t, ": SQ DUP * ; 5 SQ .", ":", "SQ", "DUP", "*", ";", "5", "SQ", ".")
	expectWords(t, "s\" a  b\" x", "s\"", "a", "b\"", "x")
	expectWords(t, "日本 語\u00a0x", "日本", "語\u00a0x")
	expectWords(t, "\x80 \xff\x7f !", "\x80", "\xff\x7f", "!")
	expectWords(t, allBytes(), allBytes()[33:])
	expectWords(t, allBytes()+allBytes(), allBytes()[33:], allBytes()[33:])
}

func TestWordsAreWhatWordTellsOneBehindTheOther(t *testing.T) {
	all := append(texts(), shortTexts(" \x00x\xff", 6)...)
	for _, s := range all {
		var want []string
		for at := 0; ; {
			word, behind := wordByHand(s, at)
			if word == "" {
				break
			}
			want = append(want, word)
			at = behind
		}
		expectWords(t, s, want...)
		expectWords(t, s, noBlanks.FindAllString(s, -1)...)
	}
}

func TestWordsOfManyTexts(t *testing.T) {
	r := rand.New(rand.NewSource(8))
	for range 3000 {
		s := randomText(r, "ab;\"\x00\n \xff\xc3\xa9", r.Intn(60))
		expectWords(t, s, noBlanks.FindAllString(s, -1)...)
	}
}

func TestWordsOfLongTexts(t *testing.T) {
	expectWords(t, strings.Repeat(" ", maxText))
	expectWords(t, strings.Repeat("x", maxText), strings.Repeat("x", maxText))
	if got := Words(strings.Repeat("x ", maxText/2)); len(got) != maxText/2 || slices.ContainsFunc(got, func(word string) bool { return word != "x" }) {
		t.Errorf("%d words, want %d", len(got), maxText/2)
	}
	if got := Words(strings.Repeat(" x", maxText/2)); len(got) != maxText/2 {
		t.Errorf("%d words, want %d", len(got), maxText/2)
	}
}

// P8.4

// small and great are the letters, each at its own one's place.
const (
	small = "abcdefghijklmnopqrstuvwxyz"
	great = "ABCDEFGHIJKLMNOPQRSTUVWXYZ"
)

// upperByHand is what the chapter says of a text in great letters.
func upperByHand(s string) string {
	out := ""
	for i := range len(s) {
		if n := strings.IndexByte(small, s[i]); n >= 0 {
			out += great[n : n+1]
		} else {
			out += s[i : i+1]
		}
	}
	return out
}

func expectUpper(t *testing.T, s, want string) {
	t.Helper()
	if got := Upper(s); got != want {
		t.Errorf("Upper(%q) = %q, want %q", s, got, want)
	}
}

func TestUpperOfEachByte(t *testing.T) {
	for c := range 256 {
		s := one(byte(c))
		expectUpper(t, s, upperByHand(s))
		expectUpper(t, "a"+s+"Z", "A"+upperByHand(s)+"Z")
	}
	expectUpper(t, allBytes(), upperByHand(allBytes()))
	expectUpper(t, small, great)
	expectUpper(t, great, great)
}

func TestUpperByExample(t *testing.T) {
	for _, x := range []struct{ s, want string }{
		{"", ""},
		{" ", " "},
		{"dup", "DUP"},
		{"DUP", "DUP"},
		{"Dup", "DUP"},
		{"dUP", "DUP"},
		{"2drop", "2DROP"},
		{"does>", "DOES>"},
		{" a b ", " A B "},
		{"a\x00z", "A\x00Z"},
		{"@`[{^~", "@`[{^~"},
		{"é", "é"},
		{"éa", "éA"},
		{"straße", "STRAßE"},
		{"ñandú", "ñANDú"},
		{"ĸſıΐ", "ĸſıΐ"},
		{"日本語", "日本語"},
		{"\xff\xfea\x80", "\xff\xfeA\x80"},
		{"\xe0\xe1\xfa", "\xe0\xe1\xfa"},
		{"\xc3a\xa9", "\xc3A\xa9"},
		{"😀z", "😀Z"},
	} {
		expectUpper(t, x.s, x.want)
	}
}

func TestUpperOfManyTexts(t *testing.T) {
	r := rand.New(rand.NewSource(84))
	for range 2000 {
		s := randomText(r, allBytes(), r.Intn(80))
		expectUpper(t, s, upperByHand(s))
		expectUpper(t, Upper(s), upperByHand(s))
	}
	expectUpper(t, strings.Repeat("aZ", maxText/2), strings.Repeat("AZ", maxText/2))
}

func expectAlike(t *testing.T, a, b string, want bool) {
	t.Helper()
	if got := Alike(a, b); got != want {
		t.Errorf("Alike(%q, %q) = %v, want %v", a, b, got, want)
	}
	if got := Alike(b, a); got != want {
		t.Errorf("Alike(%q, %q) = %v, want %v", b, a, got, want)
	}
}

func TestAlikeByExample(t *testing.T) {
	for _, x := range []struct {
		a, b string
		want bool
	}{
		{"", "", true},
		{"", "a", false},
		{"", "\x00", false},
		{"", " ", false},
		{"a", "a", true},
		{"a", "A", true},
		{"a", "b", false},
		{"a", "B", false},
		{"dup", "DUP", true},
		{"dUp", "DuP", true},
		{"dup", "dupe", false},
		{"dup", "du", false},
		{"dup", "dup ", false},
		{" dup", "dup", false},
		{"dup", "dop", false},
		{"dup", "pud", false},
		{"swap", "SWAN", false},
		{"2DUP", "2dup", true},
		{"@", "`", false},
		{"[", "{", false},
		{"\\", "|", false},
		{"]", "}", false},
		{"^", "~", false},
		{"_", "\x7f", false},
		{"0", "\x10", false},
		{" ", "\x00", false},
		{"!", "\x01", false},
		{"x@y", "X`Y", false},
		{"x[y", "X{Y", false},
		{"é", "é", true},
		{"é", "É", false},
		{"\xe9", "\xc9", false},
		{"\xe1", "\x61", false},
		{"\xc1", "a", false},
		{"\xff", "\xdf", false},
		{"\x80", "\xff", false},
		{"\x80", "\ufffd", false},
		{"k", "\u212a", false},
		{"K", "\u212a", false},
		{"s", "ſ", false},
		{"straße", "STRASSE", false},
		{"straße", "STRAßE", true},
		{"日本x", "日本X", true},
		{"a\x00b", "A\x00B", true},
		{"a\x00b", "A\x00C", false},
	} {
		expectAlike(t, x.a, x.b, x.want)
	}
}

func TestAlikeOfAllPairsOfBytes(t *testing.T) {
	for a := range 256 {
		for b := range 256 {
			s, u := one(byte(a)), one(byte(b))
			want := upperByHand(s) == upperByHand(u)
			expectAlike(t, s, u, want)
			expectAlike(t, "x"+s+"y", "X"+u+"Y", want)
		}
	}
}

func TestAlikeIsToBeTheSameInGreatLetters(t *testing.T) {
	all := append(texts(), shortTexts("aAb`", 4)...)
	for _, a := range all {
		for _, b := range all {
			expectAlike(t, a, b, upperByHand(a) == upperByHand(b))
		}
		expectAlike(t, a, Upper(a), true)
	}
}

func TestAlikeLooksAtEachPlace(t *testing.T) {
	for _, n := range []int{1, 2, 31, 32, 33, 200} {
		s := strings.Repeat("aB", n)
		for at := range len(s) {
			expectAlike(t, s, s[:at]+"c"+s[at+1:], false)
			expectAlike(t, s, s[:at]+strings.ToLower(s[at:]), true)
			expectAlike(t, s, s[:at], false)
		}
	}
}

func TestAlikeOfLongTexts(t *testing.T) {
	s, u := strings.Repeat("aZ", maxText/2), strings.Repeat("Az", maxText/2)
	expectAlike(t, s, u, true)
	expectAlike(t, s, u[1:], false)
	expectAlike(t, s, u[:maxText-1]+"y", false)
	expectAlike(t, s, "b"+u[1:], false)
	expectAlike(t, s, u+"a", false)
}

// P8.5

// lines are those texts, and many more of words and blanks.
func lines(seed int64) []string {
	r := rand.New(rand.NewSource(seed))
	out := texts()
	for range 1500 {
		out = append(out, randomText(r, "ab\x00\t \x21\x7f\x80\xff", r.Intn(40)))
	}
	return out
}

func TestEachWordHasAByteAndNoBlank(t *testing.T) {
	for _, s := range lines(85) {
		for _, word := range Words(s) {
			if word == "" || strings.ContainsAny(word, blanks) {
				t.Errorf("Words(%q) has %q", s, word)
			}
		}
	}
}

func TestWordsWithABlankBetweenAreThoseOfTheLine(t *testing.T) {
	for _, s := range lines(86) {
		words := Words(s)
		for i := range len(blanks) {
			blank := blanks[i : i+1]
			expectWords(t, strings.Join(words, blank), words...)
			expectWords(t, blank+strings.Join(words, blank)+blank, words...)
		}
		expectWords(t, strings.Join(words, "  "), words...)
	}
}

func TestWhatUptoTellsWasThere(t *testing.T) {
	for _, s := range texts() {
		for _, at := range places(s) {
			for c := range 256 {
				from := atByHand(s, at)
				text, behind, there := Upto(s, at, byte(c))
				put := s[:from] + text + s[behind:]
				if there {
					put = s[:from] + text + one(byte(c)) + s[behind:]
				}
				if put != s || strings.Contains(text, one(byte(c))) {
					t.Errorf("Upto(%q, %d, %q) = %q, %d, %v", s, at, byte(c), text, behind, there)
				}
			}
		}
	}
}

// R4

func TestAnswersHangOnArgumentsAlone(t *testing.T) {
	for range 2 {
		for _, s := range texts() {
			expectUpper(t, s, upperByHand(s))
			expectWords(t, s, noBlanks.FindAllString(s, -1)...)
			for _, at := range []int{-1, 0, 1, len(s)} {
				expectWordByHand(t, s, at)
				expectUptoByHand(t, s, at, '"')
			}
		}
	}
}

// R3

func TestWordsThatWereToldStay(t *testing.T) {
	first := Words("a b c d e")
	again := Words("a b c d e")
	more := append(first[:4], "x")
	again[0] = "y"
	if !slices.Equal(more, []string{"a", "b", "c", "d", "x"}) || !slices.Equal(again, []string{"y", "b", "c", "d", "e"}) {
		t.Errorf("%q, %q", more, again)
	}
	expectWords(t, "a b c d e", "a", "b", "c", "d", "e")
}

// The chapter's examples.

func TestTheChaptersExamples(t *testing.T) {
	expectWords(t, ": x 1 ;", ":", "x", "1", ";")
	expectUpto(t, "ab\" c", 0, '"', "ab", 3, true)
}
