package dict

import (
	"fmt"
	"math"
	"math/rand"
	"slices"
	"strings"
	"testing"

	"detent/api"
)

const (
	least = math.MinInt
	most  = math.MaxInt
)

// maxWords and maxName are the limits, told here once more.
const (
	maxWords = 1024
	maxName  = 31
)

// one is the text of one byte: string(c) would be a rune's.
func one(c byte) string { return string([]byte{c}) }

// word is a word.
func word(name string, xt, flags int) api.Word { return api.Word{Name: name, Xt: xt, Flags: flags} }

// words are words of these names, with an Xt each, and no flags.
func words(names ...string) []api.Word {
	var l []api.Word
	for i, name := range names {
		l = append(l, word(name, 32+8*i, 0))
	}
	return l
}

// filled is so many words, each of another name and Xt.
func filled(n int) []api.Word {
	l := make([]api.Word, n)
	for i := range l {
		l[i] = word(fmt.Sprintf("word-%d", i), 32+8*i, i%8)
	}
	return l
}

// deep is those words in memory of their own, without room behind the end.
func deep(l []api.Word) []api.Word {
	out := make([]api.Word, len(l))
	copy(out, l)
	return out[:len(l):len(l)]
}

// roomy is those words with room behind the end, and a mark in there.
func roomy(l []api.Word) []api.Word {
	out := append(deep(l), word("mark", -7, 5), word("mark", -8, 6))
	return out[:len(l)]
}

// whole is all that stands in a row, also behind its end.
func whole(l []api.Word) []api.Word { return l[:cap(l)] }

// replaced is those words with another one at a place.
func replaced(l []api.Word, at int, w api.Word) []api.Word {
	out := deep(l)
	out[at] = w
	return out
}

// sameByHand: are two dictionaries the same, part by part?
func sameByHand(a, b []api.Word) bool {
	if len(a) != len(b) {
		return false
	}
	for i := range a {
		if a[i].Name != b[i].Name || a[i].Xt != b[i].Xt || a[i].Flags != b[i].Flags {
			return false
		}
	}
	return true
}

// greatByHand is a text with A to Z for a to z.
func greatByHand(s string) string {
	out := ""
	for i := range len(s) {
		if n := strings.IndexByte("abcdefghijklmnopqrstuvwxyz", s[i]); n >= 0 {
			out += "ABCDEFGHIJKLMNOPQRSTUVWXYZ"[n : n+1]
		} else {
			out += s[i : i+1]
		}
	}
	return out
}

// hasBlankByHand: has a name one of the bytes 00 to 20?
func hasBlankByHand(name string) bool {
	for c := range 33 {
		if strings.Contains(name, one(byte(c))) {
			return true
		}
	}
	return false
}

// Numbers that are flags, and numbers that aren't.
func goodFlags() []int { return []int{0, 1, 2, 3, 4, 5, 6, 7} }
func badFlags() []int {
	return []int{-1, -2, -8, 8, 9, 15, 16, 255, 256, 1 << 32, -1 << 32, least, least + 1, least + 7, most - 1, most}
}

// isHidden: is a word of these flags hidden?
func isHidden(flags int) bool { return slices.Contains([]int{2, 3, 6, 7}, flags) }

// expectOne holds what Find or Of answered against a place in the words (below 0: there is none).
func expectOne(t *testing.T, what string, l []api.Word, at int, got api.Word, gotAt int, is bool) {
	t.Helper()
	want, wantAt := api.Word{}, 0
	if at >= 0 {
		want, wantAt = l[at], at
	}
	if got != want || gotAt != wantAt || is != (at >= 0) {
		t.Errorf("%s: %#v, %d, %v, want %#v, %d, %v", what, got, gotAt, is, want, wantAt, at >= 0)
	}
}

func expectFind(t *testing.T, l []api.Word, name string, at int) {
	t.Helper()
	got, gotAt, is := Find(l, name)
	expectOne(t, fmt.Sprintf("Find of %q among %d", name, len(l)), l, at, got, gotAt, is)
}

func expectOf(t *testing.T, l []api.Word, xt int, at int) {
	t.Helper()
	got, gotAt, is := Of(l, xt)
	expectOne(t, fmt.Sprintf("Of of %d among %d", xt, len(l)), l, at, got, gotAt, is)
}

// told is words, the last few of them, as a text that shows each byte.
func told(l []api.Word) string { return fmt.Sprintf("%#v", l[max(0, len(l)-5):]) }

// findByHand is the place of a name, or -1.
func findByHand(l []api.Word, name string) int {
	at := -1
	for i, w := range l {
		if !isHidden(w.Flags) && greatByHand(w.Name) == greatByHand(name) {
			at = i
		}
	}
	return at
}

// ofByHand is the place of a code field, or -1.
func ofByHand(l []api.Word, xt int) int {
	at := -1
	for i, w := range l {
		if w.Xt == xt {
			at = i
		}
	}
	return at
}

// expect holds words and a code against what they should be.
func expect(t *testing.T, what string, got []api.Word, code api.Throw, want []api.Word, wantCode api.Throw) {
	t.Helper()
	if code != wantCode {
		t.Errorf("%s: code %d, want %d", what, code, wantCode)
	}
	if !sameByHand(got, want) {
		t.Errorf("%s: %d words %s, want %d words %s", what, len(got), told(got), len(want), told(want))
	}
}

// addByHand is what the chapter says of Add.
func addByHand(l []api.Word, name string, xt, flags, limit int) ([]api.Word, api.Throw) {
	code := api.OK
	if len(l) >= maxWords || len(l) >= limit {
		code = api.Throw(-8)
	}
	if !slices.Contains(goodFlags(), flags) {
		code = api.Throw(-24)
	}
	if hasBlankByHand(name) {
		code = api.Throw(-32)
	}
	if len(name) > maxName {
		code = api.Throw(-19)
	}
	if len(name) == 0 {
		code = api.Throw(-16)
	}
	if code != api.OK {
		return l, code
	}
	return append(deep(l), word(name, xt, flags)), api.OK
}

// expectAdd holds Add against what the chapter says of it.
func expectAdd(t *testing.T, l []api.Word, name string, xt, flags, limit int) {
	t.Helper()
	want, wantCode := addByHand(l, name, xt, flags, limit)
	got, code := Add(l, name, xt, flags, limit)
	expect(t, fmt.Sprintf("Add to %d of %q, %d, %d, %d", len(l), name, xt, flags, limit), got, code, want, wantCode)
}

// expectAddCode holds Add against a code that is told, with the words as they were.
func expectAddCode(t *testing.T, l []api.Word, name string, flags, limit int, wantCode api.Throw) {
	t.Helper()
	want := deep(l)
	got, code := Add(l, name, 40, flags, limit)
	if wantCode == api.OK {
		want = append(want, word(name, 40, flags))
	}
	expect(t, fmt.Sprintf("Add to %d of %q, %d, %d", len(l), name, flags, limit), got, code, want, wantCode)
}

// P9.1, Right

func expectRight(t *testing.T, what string, l []api.Word, want bool) {
	t.Helper()
	if got := Right(l); got != want {
		t.Errorf("Right of %s: %v, want %v", what, got, want)
	}
}

func TestRightByHowManyThereAre(t *testing.T) {
	expectRight(t, "none", nil, true)
	expectRight(t, "none", []api.Word{}, true)
	for _, n := range []int{1, 2, 3, 200, 256, 1000, 1023, 1024} {
		expectRight(t, fmt.Sprint(n), filled(n), true)
	}
	for _, n := range []int{1025, 1026, 2048, 65536} {
		expectRight(t, fmt.Sprint(n), filled(n), false)
	}
	expectRight(t, "1024 in a longer row", filled(1025)[:1024], true)
	expectRight(t, "1024 behind another one", filled(1025)[1:], true)
}

func TestRightByANamesBytes(t *testing.T) {
	for n := range 70 {
		expectRight(t, fmt.Sprint("a name of ", n), words(strings.Repeat("x", n)), n >= 1 && n <= 31)
	}
	expectRight(t, "a name of 65536", words(strings.Repeat("x", 65536)), false)
	expectRight(t, "a name of 10 signs, 30 bytes", words(strings.Repeat("日", 10)), true)
	expectRight(t, "a name of 11 signs, 33 bytes", words(strings.Repeat("日", 11)), false)
	expectRight(t, "a name of 31 bytes 255", words(strings.Repeat("\xff", 31)), true)
	expectRight(t, "a name of 32 bytes 255", words(strings.Repeat("\xff", 32)), false)
}

func TestRightOfEachByteInAName(t *testing.T) {
	for c := range 256 {
		s := one(byte(c))
		for _, name := range []string{s, s + "x", "x" + s, "x" + s + "y", s + s, s + strings.Repeat("x", 30), strings.Repeat("x", 30) + s, strings.Repeat("x", 15) + s + strings.Repeat("y", 15)} {
			expectRight(t, fmt.Sprintf("%q", name), words(name), c > 32)
			expectRight(t, fmt.Sprintf("%q between others", name), words("a", name, "b"), c > 32)
		}
	}
}

func TestRightOfNamesByExample(t *testing.T) {
	for _, name := range []string{"!", "DUP", "(lit)", "2>R", "S\"", "\\", "x\x7f", "\x80", "\xff\xfe", "日本", "a\u00a0b", "\u2003", strings.Repeat("~", 31)} {
		expectRight(t, fmt.Sprintf("%q", name), words(name), true)
	}
	for _, name := range []string{"", " ", "\x00", "\t", "a b", " a", "a ", "a\n", "\x1fa", strings.Repeat("~", 32), strings.Repeat(" ", 32)} {
		expectRight(t, fmt.Sprintf("%q", name), words(name), false)
	}
}

func TestRightByFlags(t *testing.T) {
	for _, flags := range append(goodFlags(), badFlags()...) {
		for at := range 5 {
			l := words("a", "b", "c", "d", "e")
			l[at].Flags = flags
			expectRight(t, fmt.Sprintf("flags %d at %d", flags, at), l, flags >= 0 && flags <= 7)
		}
		expectRight(t, fmt.Sprintf("flags %d alone", flags), []api.Word{word("a", 0, flags)}, flags >= 0 && flags <= 7)
	}
}

func TestRightLooksAtEachWord(t *testing.T) {
	for _, n := range []int{1, 2, 3, 64, maxWords} {
		l := filled(n)
		for at := range l {
			expectRight(t, "a name of no bytes", replaced(l, at, word("", 0, 0)), false)
			expectRight(t, "a name with a blank", replaced(l, at, word("a b", 0, 0)), false)
			expectRight(t, "flags 8", replaced(l, at, word("ab", 0, 8)), false)
			expectRight(t, "another word", replaced(l, at, word("ab", 0, 7)), true)
		}
	}
}

func TestRightAsksNothingOfXtsAndOfNamesThatCameBefore(t *testing.T) {
	for _, xt := range []int{0, 1, -1, 7, 32, 1 << 32, least, most} {
		expectRight(t, fmt.Sprint("Xt ", xt), []api.Word{word("a", xt, 0)}, true)
		expectRight(t, fmt.Sprint("Xt twice ", xt), []api.Word{word("a", xt, 0), word("b", xt, 7)}, true)
	}
	expectRight(t, "a name twice", words("a", "A", "a"), true)
}

// P9.1, Same

func expectSame(t *testing.T, what string, a, b []api.Word, want bool) {
	t.Helper()
	if Same(a, b) != want || Same(b, a) != want {
		t.Errorf("Same of %s: %v, %v, want %v", what, Same(a, b), Same(b, a), want)
	}
}

func TestSameOfNoWords(t *testing.T) {
	expectSame(t, "none", nil, nil, true)
	expectSame(t, "none", nil, []api.Word{}, true)
	expectSame(t, "none", []api.Word{}, []api.Word{}, true)
	expectSame(t, "none, with room", nil, filled(3)[:0], true)
	expectSame(t, "none and one", nil, words("a"), false)
	expectSame(t, "none and one that is empty", nil, []api.Word{{}}, false)
}

func TestSameLooksAtEachPartOfEachWord(t *testing.T) {
	for _, n := range []int{1, 2, 5, 64, maxWords} {
		l := filled(n)
		expectSame(t, "itself", l, l, true)
		expectSame(t, "what is alike", l, deep(l), true)
		expectSame(t, "what has room behind its end", l, roomy(l), true)
		for at, w := range l {
			expectSame(t, "another name", l, replaced(l, at, word(w.Name+"x", w.Xt, w.Flags)), false)
			expectSame(t, "another name", l, replaced(l, at, word("W"+w.Name[1:], w.Xt, w.Flags)), false)
			expectSame(t, "no name", l, replaced(l, at, word("", w.Xt, w.Flags)), false)
			expectSame(t, "another Xt", l, replaced(l, at, word(w.Name, w.Xt+1, w.Flags)), false)
			expectSame(t, "another Xt", l, replaced(l, at, word(w.Name, w.Xt+1<<32, w.Flags)), false)
			expectSame(t, "other flags", l, replaced(l, at, word(w.Name, w.Xt, w.Flags^1)), false)
			expectSame(t, "other flags", l, replaced(l, at, word(w.Name, w.Xt, w.Flags+256)), false)
			expectSame(t, "the same word", l, replaced(l, at, word(string([]byte(w.Name)), w.Xt, w.Flags)), true)
		}
		expectSame(t, "one less", l, l[:n-1], false)
		expectSame(t, "one less", l, l[1:], false)
		expectSame(t, "one more", l, append(deep(l), word("x", 0, 0)), false)
		expectSame(t, "one more that is empty", l, append(deep(l), api.Word{}), false)
	}
}

func TestSameLooksAtTheOrder(t *testing.T) {
	a, b, c := word("a", 8, 0), word("b", 16, 1), word("c", 24, 2)
	expectSame(t, "another order", []api.Word{a, b, c}, []api.Word{a, c, b}, false)
	expectSame(t, "another order", []api.Word{a, b, c}, []api.Word{c, b, a}, false)
	expectSame(t, "another order", []api.Word{a, b, c}, []api.Word{b, c, a}, false)
	expectSame(t, "one of them twice", []api.Word{a, a, b}, []api.Word{a, b, b}, false)
	expectSame(t, "names the other way", words("a", "b"), words("b", "a"), false)
	expectSame(t, "letters of another size", words("dup"), words("Dup"), false)
	expectSame(t, "names that run on", words("ab", "c"), words("a", "bc"), false)
}

func TestSameOfDictionariesThatArentRight(t *testing.T) {
	for _, l := range [][]api.Word{{{}}, {word("", least, -1)}, {word("a b", most, 8)}, {word(strings.Repeat("x", 99), 0, most)}, filled(1025)} {
		expectSame(t, "what isn't right", l, deep(l), true)
		expectSame(t, "what isn't right, and one more", l, append(deep(l), api.Word{}), false)
	}
	expectSame(t, "1025, the last one another", filled(1025), append(filled(1024), word("x", 0, 0)), false)
	expectSame(t, "flags that aren't any", []api.Word{word("a", 0, 8)}, []api.Word{word("a", 0, 0)}, false)
}

// P9.1, Find

func TestFindAndOfAmongNoWords(t *testing.T) {
	for _, l := range [][]api.Word{nil, {}, filled(3)[:0]} {
		for _, name := range []string{"", "a", "word-0", "mark", "\x00"} {
			expectFind(t, l, name, -1)
		}
		for _, xt := range []int{0, 32, -1, least, most} {
			expectOf(t, l, xt, -1)
		}
	}
}

func TestFindByExample(t *testing.T) {
	l := []api.Word{
		word("DUP", 32, 0), word("dup", 40, 1), word("SWAP", 48, 4), word("Dup", 56, 2),
		word("x", 64, 2), word("y", 72, 0), word("Y", 80, 7), word("y", 88, 3),
		word("z", 96, 6), word("z", 104, 5), word("2DROP", 112, 0), word("é", 120, 0), word("last", 128, 0),
	}
	for _, x := range []struct {
		name string
		at   int
	}{
		{"DUP", 1}, {"dup", 1}, {"Dup", 1}, {"dUp", 1},
		{"SWAP", 2}, {"swap", 2}, {"sWaP", 2},
		{"x", -1}, {"X", -1},
		{"y", 5}, {"Y", 5},
		{"z", 9}, {"Z", 9},
		{"2drop", 10}, {"2DROP", 10},
		{"é", 11}, {"É", -1},
		{"LAST", 12}, {"last", 12}, {"lasT", 12},
		{"", -1}, {"DU", -1}, {"DUPE", -1}, {"UP", -1}, {"SWA", -1}, {"2DRO", -1}, {"DROP", -1}, {"DUP ", -1}, {" DUP", -1},
		{"DUP\x00", -1}, {"w", -1}, {"*", -1}, {"las", -1}, {"lastt", -1}, {"\xc3", -1}, {"DUPdup", -1}, {"D.P", -1},
	} {
		expectFind(t, l, x.name, x.at)
	}
}

func TestFindTellsTheWordAsItStands(t *testing.T) {
	for _, flags := range []int{0, 1, 4, 5} {
		for _, xt := range []int{0, 32, -1, least, most} {
			l := []api.Word{word("a", 1, 0), word("Foo", xt, flags), word("b", 2, 0)}
			w, at, is := Find(l, "fOO")
			if w != word("Foo", xt, flags) || at != 1 || !is {
				t.Errorf("Find: %#v, %d, %v", w, at, is)
			}
		}
	}
}

func TestFindOfEachFlag(t *testing.T) {
	for _, elder := range goodFlags() {
		for _, newer := range goodFlags() {
			l := []api.Word{word("x", 8, 0), word("foo", 16, elder), word("y", 24, 0), word("FOO", 32, newer), word("z", 40, 0)}
			switch {
			case !isHidden(newer):
				expectFind(t, l, "Foo", 3)
			case !isHidden(elder):
				expectFind(t, l, "Foo", 1)
			default:
				expectFind(t, l, "Foo", -1)
			}
		}
	}
}

func TestFindOfEachPlaceAmongMany(t *testing.T) {
	for _, n := range []int{1, 2, 3, 100, maxWords} {
		l := filled(n)
		for at, w := range l {
			l[at].Flags = 0
			expectFind(t, l, w.Name, at)
			expectFind(t, l, strings.ToUpper(w.Name), at)
		}
		expectFind(t, l, fmt.Sprintf("word-%d", n), -1)
		expectFind(t, l, "word-", -1)
		expectFind(t, l, "", -1)
	}
}

func TestFindOfANameThatIsTheHeadOfAnotherOne(t *testing.T) {
	expectFind(t, words("abc", "ab", "abcd"), "ab", 1)
	expectFind(t, words("abc", "abcd"), "ab", -1)
	expectFind(t, words("ab", "abc"), "ab", 0)
	expectFind(t, words("a", "ab"), "abc", -1)
	expectFind(t, words("abc", "bc", "c"), "c", 2)
	expectFind(t, words("abc", "xbc"), "bc", -1)
	name := strings.Repeat("x", 31)
	expectFind(t, words(name), name, 0)
	expectFind(t, words(name), name[:30], -1)
	expectFind(t, words(name), name+"x", -1)
	expectFind(t, words(name), strings.Repeat("x", 65536), -1)
}

func TestFindTurnsLettersAlone(t *testing.T) {
	for a := range 256 {
		for b := range 256 {
			if a <= 32 || b <= 32 {
				continue
			}
			at := -1
			if greatByHand(one(byte(a))) == greatByHand(one(byte(b))) {
				at = 0
			}
			expectFind(t, words(one(byte(a))), one(byte(b)), at)
		}
	}
}

func TestFindOfManyDictionaries(t *testing.T) {
	r := rand.New(rand.NewSource(91))
	names := []string{"a", "A", "b", "B", "ab", "AB", "aB", "Ab", "ba", "\xff", "é", "1"}
	for range 3000 {
		var l []api.Word
		for range r.Intn(12) {
			l = append(l, word(names[r.Intn(len(names))], 8*r.Intn(6), r.Intn(8)))
		}
		for _, name := range append(names, "", "c", "abc") {
			expectFind(t, l, name, findByHand(l, name))
		}
		for xt := -8; xt <= 56; xt += 4 {
			expectOf(t, l, xt, ofByHand(l, xt))
		}
	}
}

// P9.1, Of

func TestOfByExample(t *testing.T) {
	l := []api.Word{
		word("a", 32, 0), word("b", 40, 7), word("c", 32, 2), word("d", 48, 2), word("e", least, 0), word("f", most, 3), word("g", 0, 0), word("h", 48, 0), word("i", 56, 6), word("j", -1, 0),
	}
	for _, x := range []struct{ xt, at int }{
		{32, 2}, {40, 1}, {48, 7}, {56, 8}, {least, 4}, {most, 5}, {0, 6}, {-1, 9},
		{1, -1}, {31, -1}, {33, -1}, {-32, -1}, {64, -1}, {least + 1, -1}, {most - 1, -1}, {32 + 256, -1}, {32 + 1<<32, -1}, {1 << 32, -1},
	} {
		expectOf(t, l, x.xt, x.at)
	}
}

func TestOfAsksNothingOfFlags(t *testing.T) {
	for _, elder := range goodFlags() {
		for _, newer := range goodFlags() {
			l := []api.Word{word("x", 8, 0), word("a", 16, elder), word("b", 24, newer), word("c", 16, newer), word("z", 40, 0)}
			expectOf(t, l, 16, 3)
			expectOf(t, l, 24, 2)
			expectOf(t, l[:3], 16, 1)
		}
	}
}

func TestOfEachPlaceAmongMany(t *testing.T) {
	for _, n := range []int{1, 2, 3, 100, maxWords} {
		l := filled(n)
		for at, w := range l {
			expectOf(t, l, w.Xt, at)
		}
		expectOf(t, l, 32+8*n, -1)
		expectOf(t, l, 24, -1)
		for at := range l {
			l[at].Xt = most
		}
		expectOf(t, l, most, n-1)
	}
}

func TestFindAndOfEndAmongWordsThatArentRight(t *testing.T) {
	for _, l := range [][]api.Word{{{}}, {word("", least, -1), word("a b", most, 8)}, {word(strings.Repeat("x", 99), 0, most), word("a", 0, least)}, filled(1025), filled(5000), {word("a", 8, -1), word("a", 8, 8), word("a", 8, 10)}} {
		for _, name := range []string{"", "a", "A B", "word-1024", "word-1", strings.Repeat("X", 99)} {
			if w, at, is := Find(l, name); is && (at < 0 || at >= len(l) || l[at] != w) || !is && (at != 0 || w != api.Word{}) {
				t.Errorf("Find of %q: %#v, %d, %v", name, w, at, is)
			}
		}
		for _, xt := range []int{0, 8, least, most, 32 + 8*1024} {
			expectOf(t, l, xt, ofByHand(l, xt))
		}
	}
	l := filled(1026)
	l[1024].Flags = 0
	expectFind(t, l, "WORD-1024", 1024)
}

// P9.2

func TestAddByExample(t *testing.T) {
	l, code := Add(nil, "DUP", 216, 0, 200)
	expect(t, "the first one", l, code, []api.Word{word("DUP", 216, 0)}, api.OK)
	l, code = Add(l, "foo", 1368, 7, 200)
	expect(t, "the second one", l, code, []api.Word{word("DUP", 216, 0), word("foo", 1368, 7)}, api.OK)
	l, code = Add(l, "dup", least, 5, 3)
	expect(t, "the third one", l, code, []api.Word{word("DUP", 216, 0), word("foo", 1368, 7), word("dup", least, 5)}, api.OK)
	l, code = Add(l, "more", 0, 0, 3)
	expect(t, "no room", l, code, []api.Word{word("DUP", 216, 0), word("foo", 1368, 7), word("dup", least, 5)}, api.Space)
}

func TestAddToNoneAndToMany(t *testing.T) {
	for _, n := range []int{0, 1, 2, 3, 166, 500, 1022, 1023} {
		for _, name := range []string{"x", "word-0", "WORD-0", "日本", strings.Repeat("y", 31), "\xff", "\x7f", "!"} {
			for _, xt := range []int{0, 32, -1, least, most} {
				for _, flags := range goodFlags() {
					l := filled(n)
					got, code := Add(l, name, xt, flags, n+1)
					expect(t, "Add", got, code, append(filled(n), word(name, xt, flags)), api.OK)
				}
			}
		}
	}
}

func TestAddOfEachNumberOfBytes(t *testing.T) {
	for n := range 70 {
		name := strings.Repeat("n", n)
		switch {
		case n == 0:
			expectAddCode(t, filled(2), name, 0, 9, api.NoName)
		case n > 31:
			expectAddCode(t, filled(2), name, 0, 9, api.LongName)
		default:
			expectAddCode(t, filled(2), name, 0, 9, api.OK)
		}
	}
	expectAddCode(t, filled(2), strings.Repeat("n", 65536), 0, 9, api.LongName)
	expectAddCode(t, filled(2), strings.Repeat("日", 10), 0, 9, api.OK)
	expectAddCode(t, filled(2), strings.Repeat("日", 11), 0, 9, api.LongName)
}

func TestAddOfEachByteInAName(t *testing.T) {
	for c := range 256 {
		s := one(byte(c))
		want := api.OK
		if c <= 32 {
			want = api.BadName
		}
		for _, name := range []string{s, s + "x", "x" + s, "x" + s + "y", strings.Repeat("x", 30) + s, s + strings.Repeat("x", 30)} {
			expectAddCode(t, filled(1), name, 0, 9, want)
		}
	}
}

func TestAddOfFlags(t *testing.T) {
	for _, flags := range goodFlags() {
		expectAddCode(t, filled(2), "x", flags, 9, api.OK)
	}
	for _, flags := range badFlags() {
		expectAddCode(t, filled(2), "x", flags, 9, api.BadNumber)
		expectAddCode(t, nil, "x", flags, 9, api.BadNumber)
	}
}

func TestAddAtAllLimits(t *testing.T) {
	for _, n := range []int{0, 1, 2, 7, 200, 1022, 1023} {
		for _, limit := range []int{least, least + 1, -1024, -2, -1, 0, n - 1, n} {
			if limit <= n {
				expectAddCode(t, filled(n), "x", 0, limit, api.Space)
			}
		}
		for _, limit := range []int{n + 1, n + 2, 1024, 1025, 65536, 1 << 32, most - 1, most} {
			expectAddCode(t, filled(n), "x", 0, limit, api.OK)
		}
	}
	for _, limit := range []int{least, -1, 0, 1, 1023, 1024, 1025, 1026, 2048, 1 << 32, most - 1, most} {
		expectAddCode(t, filled(1024), "x", 0, limit, api.Space)
	}
}

func TestEachCodeOfAddAndEachPairOfThem(t *testing.T) {
	long, blank := strings.Repeat("x", 32), "a b"
	for _, x := range []struct {
		name         string
		flags, limit int
		code         api.Throw
	}{
		{"x", 0, 4, api.OK},
		{"", 0, 4, api.NoName},
		{long, 0, 4, api.LongName},
		{blank, 0, 4, api.BadName},
		{"x", 8, 4, api.BadNumber},
		{"x", 0, 3, api.Space},
		{"", 8, 4, api.NoName},
		{"", 0, 3, api.NoName},
		{"", 8, 3, api.NoName},
		{long[:31] + " ", 0, 4, api.LongName},
		{" " + long[:31], 0, 4, api.LongName},
		{strings.Repeat(" ", 32), 0, 4, api.LongName},
		{long, 8, 4, api.LongName},
		{long, 0, 3, api.LongName},
		{" " + long, -1, 3, api.LongName},
		{blank, 8, 4, api.BadName},
		{blank, 0, 3, api.BadName},
		{blank, -1, 0, api.BadName},
		{"x", 8, 3, api.BadNumber},
		{"x", -1, -1, api.BadNumber},
		{"x", least, least, api.BadNumber},
	} {
		expectAddCode(t, filled(3), x.name, x.flags, x.limit, x.code)
	}
}

func TestAddOfAllKindsOfArguments(t *testing.T) {
	names := []string{"", "x", " ", "a b", "\x00", "x\x7f", "\xff", strings.Repeat("x", 31), strings.Repeat("x", 30) + " ", strings.Repeat("x", 32), strings.Repeat(" ", 32), strings.Repeat("x", 31) + "\x1f"}
	for _, n := range []int{0, 1, 3, 1023, 1024} {
		l := filled(n)
		for _, name := range names {
			for _, flags := range []int{-1, 0, 2, 7, 8, least, most} {
				for _, limit := range []int{least, -1, 0, n - 1, n, n + 1, 1024, 1025, most} {
					expectAdd(t, l, name, 48, flags, limit)
				}
			}
		}
	}
}

func TestTheCodesOfAddAreTheDocuments(t *testing.T) {
	for _, x := range []struct {
		name         string
		flags, limit int
		number       int
	}{{"x", 0, 1, 0}, {"", 0, 1, -16}, {strings.Repeat("x", 32), 0, 1, -19}, {" ", 0, 1, -32}, {"x", 8, 1, -24}, {"x", 0, 0, -8}} {
		if _, code := Add(nil, x.name, 0, x.flags, x.limit); int(code) != x.number {
			t.Errorf("Add of %q, %d, %d: %d, want %d", x.name, x.flags, x.limit, code, x.number)
		}
	}
}

// P9.3

func TestFlagOfEachPlace(t *testing.T) {
	for _, n := range []int{1, 2, 3, 64, maxWords} {
		l := filled(n)
		for at, w := range l {
			for _, flags := range goodFlags() {
				got, code := Flag(l, at, flags)
				expect(t, fmt.Sprintf("Flag of %d at %d, %d", n, at, flags), got, code, replaced(l, at, word(w.Name, w.Xt, flags)), api.OK)
			}
		}
	}
}

func TestFlagOfPlacesThatThereArent(t *testing.T) {
	for _, n := range []int{0, 1, 2, 3, 64, maxWords} {
		l := filled(n)
		for _, at := range []int{least, least + 1, -1 << 32, -n - 1, -n, -2, -1, n, n + 1, n + 8, 1 << 16, 1 << 32, most - 1, most} {
			if at >= 0 && at < n {
				continue
			}
			for _, flags := range append(goodFlags(), badFlags()...) {
				got, code := Flag(l, at, flags)
				expect(t, fmt.Sprintf("Flag of %d at %d, %d", n, at, flags), got, code, filled(n), api.BadNumber)
			}
		}
	}
}

func TestFlagOfFlagsThatArent(t *testing.T) {
	for _, n := range []int{1, 3, 64} {
		for at := range n {
			for _, flags := range badFlags() {
				got, code := Flag(filled(n), at, flags)
				expect(t, fmt.Sprintf("Flag of %d at %d, %d", n, at, flags), got, code, filled(n), api.BadNumber)
			}
		}
	}
}

func TestFlagAmongNoWords(t *testing.T) {
	for _, l := range [][]api.Word{nil, {}, filled(3)[:0]} {
		for _, at := range []int{least, -1, 0, 1, most} {
			got, code := Flag(l, at, 0)
			expect(t, fmt.Sprint("Flag among none at ", at), got, code, nil, api.BadNumber)
		}
	}
}

func TestCutOfEachNumber(t *testing.T) {
	for _, n := range []int{0, 1, 2, 3, 64, maxWords} {
		for many := range n + 1 {
			got, code := Cut(filled(n), many)
			expect(t, fmt.Sprintf("Cut of %d to %d", n, many), got, code, filled(many), api.OK)
		}
		for _, many := range []int{least, least + 1, -1 << 32, -n - 1, -2, -1, n + 1, n + 2, 1 << 16, 1 << 32, most - 1, most} {
			got, code := Cut(filled(n), many)
			expect(t, fmt.Sprintf("Cut of %d to %d", n, many), got, code, filled(n), api.BadNumber)
		}
	}
}

func TestCutDoesntReachBehindTheEnd(t *testing.T) {
	l := roomy(filled(3))
	got, code := Cut(l, 4)
	expect(t, "Cut behind the end", got, code, filled(3), api.BadNumber)
	got, code = Flag(l, 3, 0)
	expect(t, "Flag behind the end", got, code, filled(3), api.BadNumber)
	expectFind(t, l, "mark", -1)
	expectOf(t, l, -7, -1)
}

func TestTheCodesOfFlagAndCutAreTheDocuments(t *testing.T) {
	_, flagged := Flag(filled(1), 1, 0)
	_, cut := Cut(filled(1), 2)
	if flagged != -24 || cut != -24 {
		t.Errorf("%d, %d, want -24", flagged, cut)
	}
}

// P9.4

// added is words and one more behind them, that there is room for.
func added(t *testing.T, l []api.Word, name string, xt, flags int) []api.Word {
	t.Helper()
	out, code := Add(l, name, xt, flags, maxWords)
	if code != api.OK {
		t.Fatalf("Add of %q: %d", name, code)
	}
	return out
}

// flagged is words with other flags at a place that there is.
func flagged(t *testing.T, l []api.Word, at, flags int) []api.Word {
	t.Helper()
	out, code := Flag(l, at, flags)
	if code != api.OK {
		t.Fatalf("Flag at %d: %d", at, code)
	}
	return out
}

// cutTo is the first words, of so many that there are.
func cutTo(t *testing.T, l []api.Word, many int) []api.Word {
	t.Helper()
	out, code := Cut(l, many)
	if code != api.OK {
		t.Fatalf("Cut to %d: %d", many, code)
	}
	return out
}

func TestWhatIsAddedIsFoundUpToAnotherOneOfThatName(t *testing.T) {
	for _, n := range []int{0, 1, 100, 1000} {
		l := added(t, filled(n), "Square", 2000, 0)
		for _, name := range []string{"Square", "SQUARE", "square", "sQUARE"} {
			expectFind(t, l, name, n)
		}
		l = added(t, l, "other", 2008, 0)
		expectFind(t, l, "SQUARE", n)
		l = added(t, l, "sQuArE", 2016, 1)
		for _, name := range []string{"Square", "SQUARE", "square", "sQUARE"} {
			expectFind(t, l, name, n+2)
		}
		expectFind(t, l, "OTHER", n+1)
		expectOf(t, l, 2000, n)
		expectOf(t, l, 2016, n+2)
	}
}

func TestCutBackTheElderOneIsFoundAgain(t *testing.T) {
	l := added(t, filled(50), "x", 2000, 0)
	l = added(t, l, "y", 2008, 0)
	l = added(t, l, "X", 2016, 4)
	l = added(t, l, "x", 2024, 0)
	for _, x := range []struct{ many, at int }{{54, 53}, {53, 52}, {52, 50}, {51, 50}, {50, -1}, {0, -1}} {
		expectFind(t, cutTo(t, l, x.many), "X", x.at)
		expectFind(t, cutTo(t, l, x.many), "x", x.at)
	}
	expectFind(t, l, "x", 53)
}

func TestWhatIsHiddenIsntFound(t *testing.T) {
	for _, flags := range goodFlags() {
		l := added(t, filled(10), "foo", 2000, flags)
		at := 10
		if isHidden(flags) {
			at = -1
		}
		expectFind(t, l, "FOO", at)
		l = added(t, l, "FOO", 2008, 0)
		expectFind(t, l, "foo", 11)
		l = flagged(t, l, 11, 2)
		expectFind(t, l, "foo", at)
		expectOf(t, l, 2008, 11)
		l = flagged(t, l, 11, 5)
		expectFind(t, l, "foo", 11)
		l = flagged(t, flagged(t, l, 11, 3), 10, 6)
		expectFind(t, l, "foo", -1)
		expectFind(t, flagged(t, l, 10, 1), "foo", 10)
	}
}

func TestWhatIsAddedFlaggedAndCutIsRight(t *testing.T) {
	r := rand.New(rand.NewSource(94))
	var l, byHand []api.Word
	for step := range 6000 {
		name := strings.Repeat("ab \x00C\xff"[r.Intn(6):][:1], r.Intn(34))
		n, flags := r.Intn(60)-5, r.Intn(10)-1
		var got, want []api.Word
		var code, wantCode api.Throw
		switch r.Intn(8) {
		case 0:
			got, code = Cut(l, n)
			want, wantCode = byHand, api.BadNumber
			if n >= 0 && n <= len(l) {
				want, wantCode = deep(byHand[:n]), api.OK
			}
		case 1, 2:
			got, code = Flag(l, n, flags)
			want, wantCode = byHand, api.BadNumber
			if n >= 0 && n < len(l) && flags >= 0 && flags <= 7 {
				want, wantCode = replaced(byHand, n, word(l[n].Name, l[n].Xt, flags)), api.OK
			}
		default:
			got, code = Add(l, name, n, flags, 50)
			want, wantCode = addByHand(byHand, name, n, flags, 50)
		}
		expect(t, fmt.Sprint("step ", step), got, code, want, wantCode)
		expectRight(t, fmt.Sprint("step ", step), got, true)
		expectSame(t, fmt.Sprint("step ", step), got, want, true)
		l, byHand = got, want
		expectFind(t, l, name, findByHand(byHand, name))
		expectOf(t, l, n, ofByHand(byHand, n))
	}
}

// R3

// calls are calls of each kind, those that end with a code too.
func calls() map[string]func(l []api.Word) []api.Word {
	out := map[string]func(l []api.Word) []api.Word{
		"Right": func(l []api.Word) []api.Word { Right(l); return nil },
		"Same":  func(l []api.Word) []api.Word { Same(l, l); return nil },
		"Find":  func(l []api.Word) []api.Word { Find(l, "word-0"); return nil },
		"Of":    func(l []api.Word) []api.Word { Of(l, 32); return nil },
	}
	for _, name := range []string{"x", "y", "", "a b", strings.Repeat("x", 32)} {
		for _, limit := range []int{0, most} {
			out[fmt.Sprintf("Add of %q, %d", name, limit)] = func(l []api.Word) []api.Word { got, _ := Add(l, name, 48, 3, limit); return got }
		}
	}
	for _, n := range []int{-1, 0, 1, 2, 3, 4, 7} {
		out[fmt.Sprint("Flag ", n)] = func(l []api.Word) []api.Word { got, _ := Flag(l, n, 7-n&3); return got }
		out[fmt.Sprint("Flag of none ", n)] = func(l []api.Word) []api.Word { got, _ := Flag(l, n, 8); return got }
		out[fmt.Sprint("Cut ", n)] = func(l []api.Word) []api.Word { got, _ := Cut(l, n); return got }
	}
	return out
}

func TestNoCallChangesTheWordsThatItIsGiven(t *testing.T) {
	for what, call := range calls() {
		for _, l := range [][]api.Word{nil, {}, filled(1), filled(4), roomy(nil), roomy(filled(1)), roomy(filled(4)), filled(9)[:4]} {
			before := deep(whole(l))
			call(l)
			call(l)
			if !sameByHand(whole(l), before) {
				t.Errorf("%s: %s, was %s", what, told(whole(l)), told(before))
			}
		}
	}
}

func TestALaterCallChangesNoAnswer(t *testing.T) {
	for firstName, first := range calls() {
		for secondName, second := range calls() {
			for _, l := range [][]api.Word{filled(4), roomy(filled(4)), filled(9)[:4]} {
				answer := first(l)
				before := deep(answer)
				again := second(l)
				againBefore := deep(again)
				second(answer)
				third := second(again)
				thirdBefore := deep(third)
				first(again)
				first(third)
				if !sameByHand(answer, before) || !sameByHand(again, againBefore) || !sameByHand(third, thirdBefore) {
					t.Errorf("%s, then %s: an answer has changed", firstName, secondName)
				}
			}
		}
	}
}

func TestAnswersAreMemoryOfTheirOwn(t *testing.T) {
	for what, call := range calls() {
		for _, l := range [][]api.Word{filled(4), roomy(filled(4)), filled(9)[:4]} {
			before := deep(whole(l))
			answer := call(l)
			for i := range answer {
				answer[i] = api.Word{}
			}
			_ = append(answer, word("more", 1, 1))
			if !sameByHand(whole(l), before) {
				t.Errorf("%s: what is written into the answer is seen in what was handed in", what)
			}
		}
	}
}

func TestAddTwiceToTheSameWords(t *testing.T) {
	for _, l := range [][]api.Word{nil, filled(1), roomy(filled(1)), roomy(filled(7)), filled(9)[:3], added(t, filled(2), "a", 1, 0), added(t, added(t, added(t, nil, "a", 1, 0), "b", 2, 0), "c", 3, 0)} {
		was := deep(l)
		x := added(t, l, "x", 8, 1)
		y := added(t, l, "y", 16, 4)
		z := added(t, x, "z", 24, 0)
		w := added(t, x, "w", 32, 0)
		expect(t, "the first words", l, api.OK, was, api.OK)
		expect(t, "the first one more", x, api.OK, append(deep(was), word("x", 8, 1)), api.OK)
		expect(t, "the other one more", y, api.OK, append(deep(was), word("y", 16, 4)), api.OK)
		expect(t, "two more", z, api.OK, append(deep(was), word("x", 8, 1), word("z", 24, 0)), api.OK)
		expect(t, "two others more", w, api.OK, append(deep(was), word("x", 8, 1), word("w", 32, 0)), api.OK)
	}
}

func TestFlagLeavesTheFirstWords(t *testing.T) {
	l := filled(8)
	hidden := flagged(t, l, 4, 2)
	seen := flagged(t, hidden, 4, 1)
	expect(t, "the first words", l, api.OK, filled(8), api.OK)
	expect(t, "the hidden one", hidden, api.OK, replaced(filled(8), 4, word("word-4", 64, 2)), api.OK)
	expect(t, "the one that is seen again", seen, api.OK, replaced(filled(8), 4, word("word-4", 64, 1)), api.OK)
	expectFind(t, l, "WORD-4", 4)
	expectFind(t, hidden, "WORD-4", -1)
	expectFind(t, seen, "WORD-4", 4)
}

func TestCutThenAddLeavesTheFirstWords(t *testing.T) {
	for _, l := range [][]api.Word{filled(8), roomy(filled(8)), filled(20)[:8]} {
		for many := range 9 {
			cut := cutTo(t, l, many)
			x, y := added(t, cut, "x", 8, 1), added(t, cut, "y", 16, 2)
			if many > 0 {
				flagged(t, cut, 0, 7)
			}
			expect(t, "the first words", l, api.OK, filled(8), api.OK)
			expect(t, "those that were cut", cut, api.OK, filled(many), api.OK)
			expect(t, "one more", x, api.OK, append(filled(many), word("x", 8, 1)), api.OK)
			expect(t, "the other one more", y, api.OK, append(filled(many), word("y", 16, 2)), api.OK)
		}
	}
}

// R4

func TestAnswersHangOnArgumentsAlone(t *testing.T) {
	l := filled(100)
	for range 3 {
		expectAdd(t, l, "x", 8, 0, 101)
		expectAdd(t, l, "x", 8, 0, 100)
		expectFind(t, l, "word-1", 1)
		expectFind(t, l, "word-2", -1)
		expectOf(t, l, 48, 2)
		expectRight(t, "100", l, true)
	}
}

// The chapter's example.

func TestTheChaptersExample(t *testing.T) {
	l := added(t, nil, "DUP", 216, 0)
	l = added(t, l, "dup", 1368, 0)
	expectFind(t, l, "Dup", 1)
}
