package cflow

import (
	"math/rand"
	"slices"
	"strconv"
	"strings"
	"testing"

	"detent/api"
	"detent/inner"
	"detent/mem"
	"detent/vm"
)

// part is a part of a row of words whose brackets match: its words, with rows of parts between them. Without these it is one word alone.
type part struct {
	words []string
	rows  [][]part
}

// shapes are the words of parts that have rows of parts between them.
func shapes() []string {
	return []string{
		"IF THEN", "IF ELSE THEN", "BEGIN UNTIL", "BEGIN AGAIN", "BEGIN WHILE REPEAT", "BEGIN WHILE WHILE REPEAT THEN", "BEGIN WHILE WHILE UNTIL THEN ELSE THEN",
		"DO LOOP", "DO +LOOP", "?DO LOOP", "?DO +LOOP",
	}
}

// someRow is a row of parts, with so many brackets in one another at most.
func someRow(r *rand.Rand, deep int, looped bool) []part {
	var row []part
	for range r.Intn(4) {
		switch {
		case deep > 0 && r.Intn(3) > 0:
			p := part{words: strings.Fields(shapes()[r.Intn(len(shapes()))])}
			in := looped || strings.HasSuffix(p.words[0], "DO")
			for range len(p.words) - 1 {
				p.rows = append(p.rows, someRow(r, deep-1, in))
			}
			row = append(row, p)
		case looped && r.Intn(2) > 0:
			row = append(row, part{words: []string{"LEAVE"}})
		default:
			row = append(row, part{words: []string{strconv.Itoa(r.Intn(99))}})
		}
	}
	return row
}

// wordsOf are a row's words.
func wordsOf(row []part) []string {
	var out []string
	for _, p := range row {
		for i, word := range p.words {
			out = append(out, word)
			if i < len(p.rows) {
				out = append(out, wordsOf(p.rows[i])...)
			}
		}
	}
	return out
}

// size is how many bytes a row's code has.
func size(row []part) int { return 8 * len(codeOf(row, 0, 0)) }

// codeOf is a row's code from a place on, in a loop that ends at a place: told by the sizes of its parts, not by brackets.
func codeOf(row []part, at, end int) []int {
	var out []int
	for _, p := range row {
		out = append(out, p.code(at+8*len(out), end)...)
	}
	return out
}

// row is the nth row's code from a place on; and the place behind it.
func (p part) row(n, at, end int) ([]int, int) {
	return codeOf(p.rows[n], at, end), at + size(p.rows[n])
}

func (p part) code(at, end int) []int {
	switch p.words[0] {
	case "IF":
		return p.branches(at, end)
	case "BEGIN":
		return p.rounds(at, end)
	case "DO", "?DO":
		return p.loop(at)
	case "LEAVE":
		return []int{168, 48, end}
	}
	n, _ := strconv.Atoi(p.words[0])
	return []int{40, n}
}

func (p part) branches(at, end int) []int {
	a, behindA := p.row(0, at+16, end)
	if len(p.rows) == 1 {
		return slices.Concat([]int{56, behindA}, a)
	}
	b, behindB := p.row(1, behindA+16, end)
	return slices.Concat([]int{56, behindA + 16}, a, []int{48, behindB}, b)
}

func (p part) rounds(at, end int) []int {
	a, behindA := p.row(0, at, end)
	switch len(p.rows) {
	case 1:
		xt := map[string]int{"UNTIL": 56, "AGAIN": 48}[p.words[1]]
		return append(a, xt, at)
	case 2:
		b, behindB := p.row(1, behindA+16, end)
		return slices.Concat(a, []int{56, behindB + 16}, b, []int{48, at})
	}
	b, behindB := p.row(1, behindA+16, end)
	c, behindC := p.row(2, behindB+16, end)
	d, behindD := p.row(3, behindC+16, end)
	if p.words[3] == "REPEAT" {
		return slices.Concat(a, []int{56, behindD}, b, []int{56, behindC + 16}, c, []int{48, at}, d)
	}
	e, behindE := p.row(4, behindD, end)
	f, behindF := p.row(5, behindE+16, end)
	return slices.Concat(a, []int{56, behindE + 16}, b, []int{56, behindD}, c, []int{56, at}, d, e, []int{48, behindF}, f)
}

func (p part) loop(at int) []int {
	xt := map[string]int{"LOOP": 80, "+LOOP": 88}[p.words[1]]
	head := 8
	if p.words[0] == "?DO" {
		head = 16
	}
	end := at + head + size(p.rows[0]) + 16
	a, _ := p.row(0, at+head, end)
	if head == 8 {
		return slices.Concat([]int{64}, a, []int{xt, at + 8})
	}
	return slices.Concat([]int{72, end}, a, []int{xt, at + 16})
}

// compiled is a machine, and the open brackets, behind words: brackets, numbers, and names of primitives.
func compiled(t *testing.T, v api.Vm, words []string) (api.Vm, []api.Cf) {
	t.Helper()
	var open []api.Cf
	for _, word := range words {
		var code api.Throw
		if n, err := strconv.Atoi(word); err == nil {
			v, code = Lit(v, n)
		} else if slices.Contains(Names(), word) {
			v, open, code = Bracket(v, open, word)
		} else {
			v, code = Lay(v, 32+8*slices.Index(vm.Names(), word))
		}
		if code != api.OK || !Right(open) || !vm.Right(v) {
			t.Fatalf("%v, at %s: %d, open %v", words, word, code, open)
		}
	}
	return v, open
}

// roomyNew is a new machine of 8192 bytes.
func roomyNew(t *testing.T) api.Vm {
	t.Helper()
	v, code := vm.New(api.Conf{Mem: 8192, Data: 30, Ret: 30, Words: 200, Out: 99})
	if code != api.OK {
		t.Fatal(code)
	}
	return v
}

// P13.4: rows of brackets that match, in one another: their code, cell by cell, and where its branches lead.
func TestNestedBrackets(t *testing.T) {
	r := rand.New(rand.NewSource(13))
	v := roomyNew(t)
	went := map[string]int{}
	for went["rows"] < 400 {
		row := someRow(r, 4, false)
		want := codeOf(row, 1368, 0)
		if len(want) == 0 || len(want) > 800 {
			continue
		}
		words := wordsOf(row)
		got, open := compiled(t, v, words)
		if len(open) != 0 || got.Here != 1368+8*len(want) {
			t.Fatalf("%v: open %v, Here %d", words, open, got.Here)
		}
		for i, n := range want {
			if cellAt(got, 1368+8*i) != n {
				t.Fatalf("%v: the cell at %d is %d, want %d", words, 1368+8*i, cellAt(got, 1368+8*i), n)
			}
		}
		checkPlaces(t, got)
		for _, word := range words {
			went[word]++
		}
		went["rows"]++
	}
	for _, name := range Names() {
		if went[name] < 200 {
			t.Error(name, went[name])
		}
	}
}

// checkPlaces asks of each branch's cell of what was laid that it tells a place from the first one to Here where a cell may stand.
func checkPlaces(t *testing.T, v api.Vm) {
	t.Helper()
	for at := 1368; at < v.Here; at += 8 {
		switch cellAt(v, at) {
		case branchXt, branchIfNoXt, doIfAnyXt, loopXt, loopByXt:
			at += 8
			if to := cellAt(v, at); to < 1368 || to > v.Here || to%8 != 0 {
				t.Errorf("the cell at %d tells %d", at, to)
			}
		case litXt:
			at += 8
		}
	}
}

// What is laid does what its words say.
func TestWhatIsLaidRuns(t *testing.T) {
	for _, x := range []struct {
		words string
		d     []int
		want  []int
	}{
		{"IF 1 ELSE 2 THEN 3", []int{5}, []int{1, 3}}, {"IF 1 ELSE 2 THEN 3", []int{0}, []int{2, 3}},
		{"IF 1 THEN 3", []int{5}, []int{1, 3}}, {"IF 1 THEN 3", []int{0}, []int{3}},
		{"0 5 0 DO I + LOOP", nil, []int{10}}, {"5 5 ?DO I LOOP 7", nil, []int{7}}, {"9 5 ?DO I 2 +LOOP", nil, []int{5, 7}},
		{"BEGIN DUP WHILE 1- REPEAT 8", []int{4}, []int{0, 8}}, {"BEGIN 1- DUP 0= UNTIL 8", []int{4}, []int{0, 8}},
		{"9 0 DO I I 3 = IF LEAVE THEN LOOP 7", nil, []int{0, 1, 2, 3, 7}},
		{"9 0 ?DO I 2 = IF LEAVE ELSE I 1 = IF 50 LEAVE THEN THEN LOOP 7", nil, []int{50, 7}},
		{"2 0 DO 9 0 DO LEAVE LOOP I LOOP", nil, []int{0, 1}},
		{"BEGIN DUP WHILE 1- DUP 2 <> WHILE REPEAT 77 THEN", []int{5}, []int{2, 77}}, {"BEGIN DUP WHILE 1- DUP 2 <> WHILE REPEAT 77 THEN", []int{2}, []int{0}},
	} {
		v, code := Lay(roomyNew(t), api.DoCol)
		if code != api.OK {
			t.Fatal(code)
		}
		v, open := compiled(t, v, append(strings.Fields(x.words), "(exit)"))
		v.D = x.d
		v, _, code = inner.Run(v, 1368, 1000)
		if len(open) != 0 || code != api.OK || !slices.Equal(v.D, x.want) {
			t.Errorf("%s of %v: %v, %d", x.words, x.d, v.D, code)
		}
	}
}

// A text that is laid is skipped, and told.
func TestATextThatIsLaidRuns(t *testing.T) {
	for _, s := range texts() {
		v, _ := Lay(roomyNew(t), api.DoCol)
		v, code := Str(v, s)
		if code != api.OK {
			t.Fatal(code)
		}
		v, _ = compiled(t, v, []string{"7", "(exit)"})
		v, _, code = inner.Run(v, 1368, 9)
		if code != api.OK || len(v.D) != 3 || v.D[0] != 1392 || v.D[1] != len(s) || v.D[2] != 7 {
			t.Fatalf("%q: %v, %d", s, v.D, code)
		}
		if b, code := mem.Text(v.Mem, v.D[0], v.D[1]); code != api.OK || string(b) != s {
			t.Errorf("%q: %q, %d", s, b, code)
		}
	}
}
