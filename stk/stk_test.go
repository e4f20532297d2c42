package stk

import (
	"math"
	"slices"
	"testing"

	"detent/api"
)

const (
	least = math.MinInt
	most  = math.MaxInt
)

// cells are numbers of all kinds: noughts, signs, bytes, ends.
func cells() []int {
	return []int{0, 1, -1, 2, -2, 7, 255, 256, -256, 1 << 32, -1 << 32, least, least + 1, most - 1, most}
}

// stack is so many cells, each another one, that no word's row below has.
func stack(n int) []int {
	s := make([]int, n)
	for i := range s {
		s[i] = 1000 + 3*i
	}
	return s
}

// joined is one stack on another one, in memory of its own.
func joined(below, above []int) []int {
	return append(append([]int{}, below...), above...)
}

// row is a word, cells that it takes, and what it leaves in their place, as the chapter's table says.
type row struct {
	name          string
	takes, leaves []int
}

// rows are all of the chapter's words but DEPTH, whose cell hangs on the stack below.
func rows() []row {
	return []row{
		{"DUP", []int{1}, []int{1, 1}},
		{"DROP", []int{1}, nil},
		{"SWAP", []int{1, 2}, []int{2, 1}},
		{"OVER", []int{1, 2}, []int{1, 2, 1}},
		{"NIP", []int{1, 2}, []int{2}},
		{"TUCK", []int{1, 2}, []int{2, 1, 2}},
		{"ROT", []int{1, 2, 3}, []int{2, 3, 1}},
		{"-ROT", []int{1, 2, 3}, []int{3, 1, 2}},
		{"2DUP", []int{1, 2}, []int{1, 2, 1, 2}},
		{"2DROP", []int{1, 2}, nil},
		{"2SWAP", []int{1, 2, 3, 4}, []int{3, 4, 1, 2}},
		{"2OVER", []int{1, 2, 3, 4}, []int{1, 2, 3, 4, 1, 2}},
		{"?DUP", []int{5}, []int{5, 5}},
		{"?DUP", []int{-1}, []int{-1, -1}},
		{"?DUP", []int{0}, []int{0}},
		{"PICK", []int{7, 0}, []int{7, 7}},
		{"PICK", []int{7, 8, 1}, []int{7, 8, 7}},
		{"PICK", []int{7, 8, 9, 2}, []int{7, 8, 9, 7}},
		{"PICK", []int{6, 7, 8, 9, 3}, []int{6, 7, 8, 9, 6}},
		{"ROLL", []int{7, 0}, []int{7}},
		{"ROLL", []int{7, 8, 1}, []int{8, 7}},
		{"ROLL", []int{7, 8, 9, 2}, []int{8, 9, 7}},
		{"ROLL", []int{6, 7, 8, 9, 3}, []int{7, 8, 9, 6}},
	}
}

// names are all of the chapter's words.
func names() []string {
	all := []string{"DEPTH"}
	for _, x := range rows() {
		if !slices.Contains(all, x.name) {
			all = append(all, x.name)
		}
	}
	return all
}

// depths are how many cells stand below what a word takes.
func depths() []int { return []int{0, 1, 2, 3, 17, 256, 1000} }

// limitsAround are limits near a number of cells, and those near the ends of all numbers.
func limitsAround(n int) []int {
	return []int{least, least + 1, -256, -1, 0, 1, n - 2, n - 1, n, n + 1, n + 2, 256, 1 << 32, most - 1, most}
}

// expectShuffle holds what a known word answers against what it should.
func expectShuffle(t *testing.T, name string, s []int, limit int, want []int, wantCode api.Throw) {
	t.Helper()
	got, known, code := Shuffle(name, s, limit)
	if !slices.Equal(got, want) || !known || code != wantCode {
		t.Errorf("%s of %v, limit %d: %v, %v, %d, want %v, %d", name, s, limit, got, known, code, want, wantCode)
	}
}

// expectWithin holds a known word against what it leaves, at all limits near that.
func expectWithin(t *testing.T, name string, s, left []int) {
	t.Helper()
	for _, limit := range append(limitsAround(len(left)), limitsAround(len(s))...) {
		if len(left) > limit {
			expectShuffle(t, name, s, limit, s, api.Over)
		} else {
			expectShuffle(t, name, s, limit, left, api.OK)
		}
	}
}

// expectUnder holds a known word against its having too few cells, which is told ahead of too many.
func expectUnder(t *testing.T, name string, s []int) {
	t.Helper()
	for _, limit := range limitsAround(len(s)) {
		expectShuffle(t, name, s, limit, s, api.Under)
	}
}

// P4.1

func TestPushByExample(t *testing.T) {
	for _, x := range []struct {
		s     []int
		limit int
		want  []int
		code  api.Throw
	}{
		{nil, 1, []int{9}, api.OK},
		{[]int{}, 5, []int{9}, api.OK},
		{[]int{1, 2}, 3, []int{1, 2, 9}, api.OK},
		{[]int{1, 2}, most, []int{1, 2, 9}, api.OK},
		{[]int{1, 2, 3}, 3, []int{1, 2, 3}, api.Over},
		{[]int{1, 2, 3, 4}, 3, []int{1, 2, 3, 4}, api.Over},
		{nil, 0, nil, api.Over},
		{nil, -1, nil, api.Over},
		{nil, least, nil, api.Over},
		{[]int{1}, 0, []int{1}, api.Over},
		{[]int{1}, -1, []int{1}, api.Over},
	} {
		if got, code := Push(x.s, 9, x.limit); !slices.Equal(got, x.want) || code != x.code {
			t.Errorf("Push onto %v, limit %d: %v, %d, want %v, %d", x.s, x.limit, got, code, x.want, x.code)
		}
	}
}

func TestPushAtAllLimits(t *testing.T) {
	for _, depth := range depths() {
		s := stack(depth)
		for _, limit := range limitsAround(depth) {
			for _, n := range cells() {
				want, wantCode := joined(s, []int{n}), api.OK
				if depth >= limit {
					want, wantCode = s, api.Over
				}
				if got, code := Push(s, n, limit); !slices.Equal(got, want) || code != wantCode {
					t.Errorf("Push of %d onto %d cells, limit %d: %d cells, %d", n, depth, limit, len(got), code)
				}
			}
		}
	}
}

// Only cells count against the limit, not room that a row has behind them.
func TestPushLooksAtCellsNotAtRoom(t *testing.T) {
	s := make([]int, 2, 64)
	if got, code := Push(s, 9, 3); !slices.Equal(got, []int{0, 0, 9}) || code != api.OK {
		t.Error(got, code)
	}
	if got, code := Push(make([]int, 3), 9, 3); !slices.Equal(got, []int{0, 0, 0}) || code != api.Over {
		t.Error(got, code)
	}
}

func TestPop(t *testing.T) {
	for _, none := range [][]int{nil, {}, make([]int, 0, 9)} {
		if n, got, code := Pop(none); n != 0 || len(got) != 0 || code != api.Under {
			t.Error("of none:", n, got, code)
		}
	}
	for _, depth := range depths() {
		s := stack(depth)
		for _, n := range cells() {
			if top, got, code := Pop(joined(s, []int{n})); top != n || !slices.Equal(got, s) || code != api.OK {
				t.Errorf("%d on %d cells: %d, %d cells, %d", n, depth, top, len(got), code)
			}
		}
	}
}

func TestPopDownToNone(t *testing.T) {
	left := []int{5, 0, -7}
	for _, want := range []int{-7, 0, 5} {
		n, rest, code := Pop(left)
		if n != want || len(rest) != len(left)-1 || code != api.OK {
			t.Error(n, rest, code)
		}
		left = rest
	}
	if n, rest, code := Pop(left); n != 0 || len(rest) != 0 || code != api.Under {
		t.Error(n, rest, code)
	}
}

// P4.2

func TestExamplesOfTheChapter(t *testing.T) {
	expectShuffle(t, "ROT", []int{1, 2, 3}, 3, []int{2, 3, 1}, api.OK)
	expectShuffle(t, "PICK", []int{7, 8, 9, 2}, 4, []int{7, 8, 9, 7}, api.OK)
}

func TestEachWordAtEachDepth(t *testing.T) {
	for _, x := range rows() {
		for _, depth := range depths() {
			below := stack(depth)
			expectWithin(t, x.name, joined(below, x.takes), joined(below, x.leaves))
		}
	}
}

// A word with one cell fewer than it takes, with fewer yet, and with none.
func TestEachWordOfTooFewCells(t *testing.T) {
	for _, x := range rows() {
		for missing := range len(x.takes) {
			expectUnder(t, x.name, x.takes[missing+1:])
		}
		expectUnder(t, x.name, nil)
	}
}

// Words take cells of any number; only where they stand counts.
func TestWordsOfCellsOfAllKinds(t *testing.T) {
	for _, a := range cells() {
		for _, b := range cells() {
			expectShuffle(t, "DUP", []int{a}, 2, []int{a, a}, api.OK)
			expectShuffle(t, "DROP", []int{b, a}, 2, []int{b}, api.OK)
			expectShuffle(t, "SWAP", []int{a, b}, 2, []int{b, a}, api.OK)
			expectShuffle(t, "TUCK", []int{a, b}, 3, []int{b, a, b}, api.OK)
			expectShuffle(t, "-ROT", []int{a, 5, b}, 3, []int{b, a, 5}, api.OK)
			expectShuffle(t, "2OVER", []int{a, b, 5, a}, 6, []int{a, b, 5, a, a, b}, api.OK)
			expectShuffle(t, "PICK", []int{a, b, 1}, 3, []int{a, b, a}, api.OK)
			expectShuffle(t, "ROLL", []int{a, b, 1}, 3, []int{b, a}, api.OK)
		}
	}
}

func TestWordsThatThereArent(t *testing.T) {
	others := []string{
		"", " ", "FOO", "dup", "Dup", "DUp", "swap", "depth", "?dup", "2drop", "-rot", "pick", "roll",
		"DUP ", " DUP", "DUP DROP", "DROP ", "SWAP\n", "PICK ", " ROLL", "DEPTH ", "?DUP ", "?DUP\x00",
		"DU", "DUPP", "DROPS", "2PICK", "3DUP", "2ROT", "2NIP", "-ROLL", "?", "?DROP", "ROT-", "--ROT",
		"a", "a aa", "ab ba", "+", "NEGATE", ">R", "DUP\u00a0", "\xff",
	}
	for _, name := range others {
		for _, s := range [][]int{nil, {0}, {5}, {1, 2}, {9, 8, 7, 0}, {9, 8, 7, 2}, {9, -1}, stack(300)} {
			for _, limit := range limitsAround(len(s)) {
				if got, known, code := Shuffle(name, s, limit); !slices.Equal(got, s) || known || code != api.OK {
					t.Errorf("%q of %v, limit %d: %v, %v, %d", name, s, limit, got, known, code)
				}
			}
		}
	}
}

func TestLimitsByExample(t *testing.T) {
	for _, x := range []struct {
		name  string
		s     []int
		limit int
		want  []int
		code  api.Throw
	}{
		{"DUP", []int{1, 2}, 3, []int{1, 2, 2}, api.OK},
		{"DUP", []int{1, 2}, 2, []int{1, 2}, api.Over},
		{"2OVER", []int{1, 2, 3, 4}, 6, []int{1, 2, 3, 4, 1, 2}, api.OK},
		{"2OVER", []int{1, 2, 3, 4}, 5, []int{1, 2, 3, 4}, api.Over},
		{"DEPTH", nil, 1, []int{0}, api.OK},
		{"DEPTH", nil, 0, nil, api.Over},
		// As many are left as were taken: a stack above the limit stays above it.
		{"SWAP", []int{1, 2}, 2, []int{2, 1}, api.OK},
		{"SWAP", []int{1, 2}, 1, []int{1, 2}, api.Over},
		{"PICK", []int{7, 0}, 2, []int{7, 7}, api.OK},
		{"PICK", []int{7, 0}, 1, []int{7, 0}, api.Over},
		{"?DUP", []int{3, 0}, 2, []int{3, 0}, api.OK},
		{"?DUP", []int{3, 0}, 1, []int{3, 0}, api.Over},
		// Fewer are left: it was above the limit, and is so no more, or still.
		{"DROP", []int{1, 2, 3}, 2, []int{1, 2}, api.OK},
		{"DROP", []int{1, 2, 3}, 1, []int{1, 2, 3}, api.Over},
		{"DROP", []int{1}, 0, nil, api.OK},
		{"DROP", []int{1}, -1, []int{1}, api.Over},
		{"2DROP", []int{1, 2, 3}, 1, []int{1}, api.OK},
		{"2DROP", []int{1, 2, 3}, 0, []int{1, 2, 3}, api.Over},
		{"NIP", []int{1, 2, 3}, 2, []int{1, 3}, api.OK},
		{"NIP", []int{1, 2, 3}, 1, []int{1, 2, 3}, api.Over},
		{"ROLL", []int{1, 2, 1}, 2, []int{2, 1}, api.OK},
		{"ROLL", []int{1, 2, 1}, 1, []int{1, 2, 1}, api.Over},
		// Where both could be, too few cells are told.
		{"DUP", nil, 0, nil, api.Under},
		{"DROP", nil, -1, nil, api.Under},
		{"ROT", []int{1, 2}, 1, []int{1, 2}, api.Under},
		{"2OVER", []int{1, 2, 3}, 3, []int{1, 2, 3}, api.Under},
		{"PICK", []int{4, 5, 2}, 2, []int{4, 5, 2}, api.Under},
		{"ROLL", []int{4, 5, -1}, 1, []int{4, 5, -1}, api.Under},
	} {
		expectShuffle(t, x.name, x.s, x.limit, x.want, x.code)
	}
}

func TestQuestionDup(t *testing.T) {
	for _, depth := range depths() {
		for _, n := range cells() {
			s := joined(stack(depth), []int{n})
			left := joined(s, []int{n})
			if n == 0 {
				left = s
			}
			expectWithin(t, "?DUP", s, left)
		}
	}
}

func TestDepth(t *testing.T) {
	expectShuffle(t, "DEPTH", nil, 1, []int{0}, api.OK)
	expectShuffle(t, "DEPTH", []int{}, 1, []int{0}, api.OK)
	expectShuffle(t, "DEPTH", make([]int, 0, 9), 1, []int{0}, api.OK)
	for _, depth := range depths() {
		s := stack(depth)
		expectWithin(t, "DEPTH", s, joined(s, []int{depth}))
	}
}

// The number n asks for n cells, and one more, below it: the others are turned, or there are too few.
func TestPickAndRollOfAllNumbers(t *testing.T) {
	for _, depth := range []int{0, 1, 2, 3, 4, 9, 255, 256} {
		below := stack(depth)
		numbers := append(cells(), depth-3, depth-2, depth-1, depth, depth+1, depth+2, -depth)
		for _, n := range numbers {
			s := joined(below, []int{n})
			if n < 0 || n > depth-1 {
				expectUnder(t, "PICK", s)
				expectUnder(t, "ROLL", s)
				continue
			}
			at := depth - 1 - n
			expectWithin(t, "PICK", s, joined(below, []int{below[at]}))
			expectWithin(t, "ROLL", s, joined(below[:at], joined(below[at+1:], []int{below[at]})))
		}
	}
}

func TestPickAndRollWithoutANumber(t *testing.T) {
	expectUnder(t, "PICK", nil)
	expectUnder(t, "ROLL", nil)
	for _, n := range cells() {
		expectUnder(t, "PICK", []int{n})
		expectUnder(t, "ROLL", []int{n})
	}
}

func TestPickAndRollOfFewAreOtherWords(t *testing.T) {
	for _, x := range []struct {
		name string
		n    int
		same string
	}{{"PICK", 0, "DUP"}, {"PICK", 1, "OVER"}, {"ROLL", 1, "SWAP"}, {"ROLL", 2, "ROT"}} {
		s := stack(6)
		want, _, _ := Shuffle(x.same, s, most)
		expectShuffle(t, x.name, joined(s, []int{x.n}), most, want, api.OK)
	}
	expectShuffle(t, "ROLL", []int{4, 5, 0}, most, []int{4, 5}, api.OK)
}

// P4.3

func TestNothingBelowIsTouched(t *testing.T) {
	for _, x := range append(rows(), row{"DEPTH", nil, []int{0}}) {
		for _, depth := range depths() {
			below := stack(depth)
			got, known, code := Shuffle(x.name, joined(below, x.takes), most)
			if len(got) != depth+len(x.leaves) || !slices.Equal(got[:depth], below) || !known || code != api.OK {
				t.Errorf("%s on %d cells: %v, %v, %d", x.name, depth, got, known, code)
			}
		}
	}
}

func TestWordsThatLeaveAllAsItWas(t *testing.T) {
	for _, words := range [][]string{
		{"SWAP", "SWAP"}, {"ROT", "ROT", "ROT"}, {"ROT", "-ROT"}, {"-ROT", "ROT"}, {"-ROT", "-ROT", "-ROT"},
		{"2SWAP", "2SWAP"}, {"DUP", "DROP"}, {"2DUP", "2DROP"}, {"OVER", "DROP"}, {"TUCK", "DROP", "SWAP"}, {"2OVER", "2DROP"}, {"DEPTH", "DROP"},
	} {
		for _, depth := range []int{4, 5, 256} {
			s := stack(depth)
			got := s
			for _, name := range words {
				next, known, code := Shuffle(name, got, depth+2)
				if !known || code != api.OK {
					t.Fatal(words, name, known, code)
				}
				got = next
			}
			if !slices.Equal(got, s) {
				t.Errorf("%v of %v: %v", words, s, got)
			}
		}
	}
}

func TestWhatIsPushedIsPopped(t *testing.T) {
	for _, depth := range depths() {
		s := stack(depth)
		for _, n := range cells() {
			more, _ := Push(s, n, depth+1)
			if top, got, code := Pop(more); top != n || !slices.Equal(got, s) || code != api.OK {
				t.Errorf("%d on %d cells: %d, %v, %d", n, depth, top, got, code)
			}
		}
	}
}

// R3

// call is one of the package's calls, of a stack alone.
type call struct {
	name string
	of   func(s []int) []int
}

// calls are all calls, with room, and with none: such that do their work, and such that end with a code.
func calls() []call {
	all := []call{{"Pop", func(s []int) []int { _, out, _ := Pop(s); return out }}}
	for _, limit := range []int{0, 4, most} {
		all = append(all, call{"Push", func(s []int) []int { out, _ := Push(s, -5, limit); return out }})
		for _, name := range append(names(), "FOO") {
			all = append(all, call{name, func(s []int) []int { out, _, _ := Shuffle(name, s, limit); return out }})
		}
	}
	return all
}

// roomy is a stack in a row with room behind its end, and all of that row.
func roomy(s []int) ([]int, []int) {
	all := joined(s, []int{91, 92, 93, 94, 95, 96, 97, 98})
	return all[:len(s)], all
}

// shapes are stacks of which words take cells, or have too few.
func shapes() [][]int {
	return [][]int{nil, {0}, {5}, {6, 0}, {6, 5}, {3, 4, 1}, {1, 2, 3, 4}, {7, 8, 9, 10, 2}, {7, 8, 9, 10, 4}, {7, -1}}
}

func TestTheStackThatIsHandedInStays(t *testing.T) {
	for _, s := range shapes() {
		for _, c := range calls() {
			in, all := roomy(s)
			was := slices.Clone(all)
			c.of(in)
			if !slices.Equal(all, was) {
				t.Errorf("%s of %v: the row is %v", c.name, s, all)
			}
		}
	}
}

func TestALaterCallChangesNoAnswer(t *testing.T) {
	for _, s := range shapes() {
		for _, first := range calls() {
			for _, second := range calls() {
				in, all := roomy(s)
				was := slices.Clone(all)
				got := first.of(in)
				kept := slices.Clone(got)
				again := second.of(in)
				on := second.of(got)
				keptAgain, keptOn := slices.Clone(again), slices.Clone(on)
				first.of(again)
				first.of(on)
				if !slices.Equal(got, kept) || !slices.Equal(again, keptAgain) || !slices.Equal(on, keptOn) || !slices.Equal(all, was) {
					t.Errorf("%s and %s of %v: %v was %v", first.name, second.name, s, got, kept)
				}
			}
		}
	}
}

// What is written into an answer, or behind its end, is seen neither in the stack that was handed in, nor in another answer.
func TestAnswersAreMemoryOfTheirOwn(t *testing.T) {
	for _, s := range shapes() {
		for _, c := range calls() {
			in, all := roomy(s)
			was := slices.Clone(all)
			got, other := c.of(in), c.of(in)
			kept := slices.Clone(other)
			for i := range got {
				got[i] = 77
			}
			_ = append(got, 78, 79)
			if !slices.Equal(all, was) || !slices.Equal(other, kept) {
				t.Errorf("%s of %v: the row is %v, another answer %v", c.name, s, all, other)
			}
		}
	}
}
