package spc

import (
	"encoding/binary"
	"math"
	"math/big"
	"math/rand"
	"reflect"
	"testing"

	"detent/api"
	"detent/mem"
)

const (
	least = math.MinInt
	most  = math.MaxInt
)

// sizes are memories' sizes at which all ends are gone through.
func sizes() []int { return []int{0, 8, 16, 24} }

// memory is so many bytes, none of them 00, each other than its neighbours, and a patch or two where they have room.
func memory(size int) api.Mem {
	m := api.Mem{B: make([]byte, size)}
	for i := range m.B {
		m.B[i] = byte(i%251 + 1)
	}
	if size > 0 {
		m.Old = []api.Patch{{At: 0, Old: []byte{9, 8, 7}}, {At: size - 1, Old: []byte{6}}}
	}
	return m
}

// row is so many bytes, none of which stands in memory where it is laid.
func row(n int) []byte {
	b := make([]byte, n)
	for i := range b {
		b[i] = byte(255 - i%2)
	}
	return b
}

// deep is a memory that shares nothing with another one, not even room behind its rows.
func deep(m api.Mem) api.Mem {
	out := api.Mem{B: append([]byte{}, m.B...)}
	for _, p := range m.Old {
		out.Old = append(out.Old, api.Patch{At: p.At, Old: append([]byte{}, p.Old...)})
	}
	return out
}

// alike holds two memories against each other, bytes and patches.
func alike(a, b api.Mem) bool { return reflect.DeepEqual(deep(a), deep(b)) }

// laidByHand is chapter 3's write of bytes at an end that has room for them, byte by byte.
func laidByHand(m api.Mem, here int, b []byte) api.Mem {
	out := deep(m)
	var stood []byte
	for i, c := range b {
		stood = append(stood, out.B[here+i])
		out.B[here+i] = c
	}
	if len(b) > 0 {
		out.Old = append(out.Old, api.Patch{At: here, Old: stood})
	}
	return out
}

// bytesOf is a cell's bytes, by hand.
func bytesOf(n int) []byte { return binary.LittleEndian.AppendUint64(nil, uint64(n)) }

// cells are numbers of all kinds: noughts, signs, bytes, ends.
func cells() []int {
	return []int{0, 1, -1, 5, 255, 256, 258, -256, 1 << 32, -1 << 32, 0x0123456789abcdef, least, least + 1, most - 1, most}
}

// answer is what a call that lays answers.
type answer struct {
	m    api.Mem
	here int
	code api.Throw
}

// of is an answer of a call's results.
func of(m api.Mem, here int, code api.Throw) answer { return answer{m, here, code} }

// expect holds an answer against what it should be.
func expect(t *testing.T, what string, args []int, got, want answer) {
	t.Helper()
	if got.here != want.here || got.code != want.code {
		t.Errorf("%s%v: end %d, code %d, want %d, %d", what, args, got.here, got.code, want.here, want.code)
	}
	if !alike(got.m, want.m) {
		t.Errorf("%s%v: memory %v, want %v", what, args, got.m, want.m)
	}
}

// done is the memory and the end of a call that had to go well.
func done(t *testing.T, x answer) (api.Mem, int) {
	t.Helper()
	if x.code != api.OK {
		t.Fatal("code", x.code)
	}
	return x.m, x.here
}

// P5.1

func TestAllotByExample(t *testing.T) {
	for _, x := range []struct {
		size, low, here, n int
		want               int
		code               api.Throw
	}{
		// By none, by one, by as many as are left, by one more.
		{16, 0, 5, 0, 5, api.OK}, {16, 0, 5, 1, 6, api.OK}, {16, 0, 5, 10, 15, api.OK}, {16, 0, 5, 11, 16, api.OK}, {16, 0, 5, 12, 5, api.Space},
		{16, 0, 0, 16, 16, api.OK}, {16, 0, 0, 17, 0, api.Space}, {16, 0, 15, 1, 16, api.OK}, {16, 0, 15, 2, 15, api.Space},
		// Back down to low, and by one further.
		{16, 2, 5, -1, 4, api.OK}, {16, 2, 5, -3, 2, api.OK}, {16, 2, 5, -4, 5, api.Space},
		{16, 0, 5, -5, 0, api.OK}, {16, 0, 5, -6, 5, api.Space}, {16, 0, 0, -1, 0, api.Space},
		// With low at the end: on, but not back.
		{16, 5, 5, 0, 5, api.OK}, {16, 5, 5, 11, 16, api.OK}, {16, 5, 5, 12, 5, api.Space}, {16, 5, 5, -1, 5, api.Space},
		// With low above the end: on to low, and no less.
		{16, 7, 5, 0, 5, api.Space}, {16, 7, 5, 1, 5, api.Space}, {16, 7, 5, 2, 7, api.OK}, {16, 7, 5, 11, 16, api.OK}, {16, 7, 5, 12, 5, api.Space}, {16, 7, 5, -1, 5, api.Space},
		// At all bytes, and with low there.
		{16, 0, 16, 0, 16, api.OK}, {16, 0, 16, 1, 16, api.Space}, {16, 0, 16, -16, 0, api.OK}, {16, 0, 16, -17, 16, api.Space},
		{16, 16, 16, 0, 16, api.OK}, {16, 16, 16, 1, 16, api.Space}, {16, 16, 16, -1, 16, api.Space},
		{16, 16, 5, 10, 5, api.Space}, {16, 16, 5, 11, 16, api.OK}, {16, 16, 0, 16, 16, api.OK},
		// The greatest and the least cell, also where the sum goes round.
		{16, 0, 0, most, 0, api.Space}, {16, 0, 1, most, 1, api.Space}, {16, 0, 16, most, 16, api.Space}, {16, 16, 16, most, 16, api.Space},
		{16, 0, 0, least, 0, api.Space}, {16, 0, 16, least, 16, api.Space}, {16, 16, 16, least, 16, api.Space}, {16, 16, 0, least, 0, api.Space},
		{16, 0, 16, most - 15, 16, api.Space}, {16, 0, 16, most - 16, 16, api.Space}, {16, 0, 8, 1 << 32, 8, api.Space}, {16, 0, 8, -1 << 32, 8, api.Space},
		// The least memory and the greatest one.
		{0, 0, 0, 0, 0, api.OK}, {0, 0, 0, 1, 0, api.Space}, {0, 0, 0, -1, 0, api.Space}, {0, 0, 0, most, 0, api.Space}, {0, 0, 0, least, 0, api.Space},
		{65536, 0, 0, 65536, 65536, api.OK}, {65536, 0, 0, 65537, 0, api.Space}, {65536, 1376, 65535, 1, 65536, api.OK},
		{65536, 1376, 65536, 1376 - 65536, 1376, api.OK}, {65536, 1376, 65536, 1375 - 65536, 65536, api.Space}, {65536, 0, 65536, most, 65536, api.Space},
	} {
		if here, code := Allot(memory(x.size), x.low, x.here, x.n); here != x.want || code != x.code {
			t.Errorf("of %d bytes, low %d: Allot at %d by %d: %d, %d, want %d, %d", x.size, x.low, x.here, x.n, here, code, x.want, x.code)
		}
	}
}

// allotByHand is what the chapter says, by whole numbers of any size.
func allotByHand(size, low, here, n int) (int, api.Throw) {
	sum := new(big.Int).Add(big.NewInt(int64(here)), big.NewInt(int64(n)))
	if sum.Cmp(big.NewInt(int64(low))) < 0 || sum.Cmp(big.NewInt(int64(size))) > 0 {
		return here, api.Space
	}
	return int(sum.Int64()), api.OK
}

func TestAllotAtAllEnds(t *testing.T) {
	for _, size := range sizes() {
		for low := range size + 1 {
			for here := range size + 1 {
				steps := cells()
				for far := range 2*size + 2 {
					steps = append(steps, far, -far, most-far, least+far)
				}
				for _, n := range steps {
					want, wantCode := allotByHand(size, low, here, n)
					if got, code := Allot(memory(size), low, here, n); got != want || code != wantCode {
						t.Errorf("of %d bytes, low %d: Allot at %d by %d: %d, %d, want %d, %d", size, low, here, n, got, code, want, wantCode)
					}
				}
			}
		}
	}
}

// Bytes count, not room that a row has behind them.
func TestAllotLooksAtBytesNotAtRoom(t *testing.T) {
	if here, code := Allot(api.Mem{B: make([]byte, 8, 64)}, 0, 4, 5); here != 4 || code != api.Space {
		t.Error(here, code)
	}
}

func TestAllotOnAndBackIsWhereItWas(t *testing.T) {
	m := memory(24)
	for here := range 25 {
		for n := range 25 - here {
			on, code := Allot(m, here, here, n)
			back, backCode := Allot(m, here, on, -n)
			if on != here+n || code != api.OK || back != here || backCode != api.OK {
				t.Error(here, n, on, code, back, backCode)
			}
		}
	}
}

// P5.2

func TestLayAtAllEnds(t *testing.T) {
	for _, size := range sizes() {
		m := memory(size)
		for here := range size + 1 {
			for n := range size + 3 {
				want := answer{m, here, api.Space}
				if n <= size-here {
					want = answer{laidByHand(m, here, row(n)), here + n, api.OK}
				}
				expect(t, "Lay", []int{size, here, n}, of(Lay(m, here, row(n))), want)
			}
		}
	}
}

func TestLayByExample(t *testing.T) {
	m := api.Mem{B: []byte("abcdefgh")}
	for _, x := range []struct {
		here  int
		b     string
		bytes string
		old   []api.Patch
		end   int
		code  api.Throw
	}{
		{0, "", "abcdefgh", nil, 0, api.OK},
		{0, "A", "Abcdefgh", []api.Patch{{At: 0, Old: []byte("a")}}, 1, api.OK},
		{0, "ABCDEFGH", "ABCDEFGH", []api.Patch{{At: 0, Old: []byte("abcdefgh")}}, 8, api.OK},
		{0, "ABCDEFGHI", "abcdefgh", nil, 0, api.Space},
		{3, "", "abcdefgh", nil, 3, api.OK},
		{3, "AB", "abcABfgh", []api.Patch{{At: 3, Old: []byte("de")}}, 5, api.OK},
		{3, "ABCDE", "abcABCDE", []api.Patch{{At: 3, Old: []byte("defgh")}}, 8, api.OK},
		{3, "ABCDEF", "abcdefgh", nil, 3, api.Space},
		{7, "A", "abcdefgA", []api.Patch{{At: 7, Old: []byte("h")}}, 8, api.OK},
		{7, "AB", "abcdefgh", nil, 7, api.Space},
		{8, "", "abcdefgh", nil, 8, api.OK},
		{8, "A", "abcdefgh", nil, 8, api.Space},
	} {
		want := answer{api.Mem{B: []byte(x.bytes), Old: x.old}, x.end, x.code}
		expect(t, "Lay of "+x.b, []int{x.here}, of(Lay(m, x.here, []byte(x.b))), want)
	}
}

func TestLayOfNoBytesIsNoPatch(t *testing.T) {
	for _, size := range sizes() {
		m := memory(size)
		for here := range size + 1 {
			for _, none := range [][]byte{nil, {}, make([]byte, 0, 9)} {
				expect(t, "Lay of none", []int{size, here}, of(Lay(m, here, none)), answer{m, here, api.OK})
			}
		}
	}
}

// What is laid as it stands there is a write like any other one.
func TestLayOfWhatStandsThereIsAPatchToo(t *testing.T) {
	m := api.Mem{B: make([]byte, 8)}
	got := of(Lay(m, 2, []byte{0, 0}))
	expect(t, "Lay", nil, got, answer{api.Mem{B: make([]byte, 8), Old: []api.Patch{{At: 2, Old: []byte{0, 0}}}}, 4, api.OK})
}

func TestLayLooksAtBytesNotAtRoom(t *testing.T) {
	m := api.Mem{B: make([]byte, 8, 64)}
	expect(t, "Lay", []int{6}, of(Lay(m, 6, row(3))), answer{m, 6, api.Space})
	roomy := append(make([]byte, 0, 64), row(2)...)
	expect(t, "Lay", []int{6}, of(Lay(m, 6, roomy)), answer{laidByHand(m, 6, row(2)), 8, api.OK})
}

func TestLayInTheGreatestMemory(t *testing.T) {
	m, _ := mem.New(api.Most)
	for _, x := range []struct {
		here, n int
		code    api.Throw
	}{
		{0, 65536, api.OK}, {0, 65537, api.Space}, {0, 131072, api.Space}, {1, 65535, api.OK}, {1, 65536, api.Space},
		{65528, 8, api.OK}, {65528, 9, api.Space}, {65535, 1, api.OK}, {65535, 2, api.Space}, {65536, 0, api.OK}, {65536, 1, api.Space},
	} {
		got := of(Lay(m, x.here, row(x.n)))
		want := answer{m, x.here, x.code}
		if x.code == api.OK {
			want = answer{laidByHand(m, x.here, row(x.n)), x.here + x.n, api.OK}
		}
		if got.here != want.here || got.code != want.code || !alike(got.m, want.m) {
			t.Error(x, got.here, got.code)
		}
	}
}

// P5.3

// commaByHand is what the chapter says of a cell that is laid at an end.
func commaByHand(m api.Mem, here, n int) answer {
	switch {
	case here%8 != 0:
		return answer{m, here, api.Align}
	case here+8 > len(m.B):
		return answer{m, here, api.Space}
	}
	return answer{laidByHand(m, here, bytesOf(n)), here + 8, api.OK}
}

func TestCommaAtAllEnds(t *testing.T) {
	for _, size := range sizes() {
		m := memory(size)
		for here := range size + 1 {
			for _, n := range cells() {
				expect(t, "Comma", []int{size, here, n}, of(Comma(m, here, n)), commaByHand(m, here, n))
			}
		}
	}
}

func TestCommaByExample(t *testing.T) {
	m := memory(16)
	for _, x := range []struct {
		here, end int
		code      api.Throw
	}{
		{0, 8, api.OK}, {8, 16, api.OK},
		// There is room for the cell, and it may not stand there.
		{1, 1, api.Align}, {4, 4, api.Align}, {7, 7, api.Align},
		// There is room for less, and it may not stand there, either: Align comes first.
		{9, 9, api.Align}, {12, 12, api.Align}, {15, 15, api.Align},
		{16, 16, api.Space},
	} {
		got := of(Comma(m, x.here, -2))
		if got.here != x.end || got.code != x.code || x.code != api.OK && !alike(got.m, m) {
			t.Error(x, got)
		}
	}
	m = api.Mem{B: []byte{1, 2, 3, 4, 5, 6, 7, 8, 9, 10, 11, 12, 13, 14, 15, 16}}
	want := api.Mem{
		B:   []byte{1, 2, 3, 4, 5, 6, 7, 8, 2, 1, 0, 0, 0, 0, 0, 0},
		Old: []api.Patch{{At: 8, Old: []byte{9, 10, 11, 12, 13, 14, 15, 16}}},
	}
	expect(t, "Comma", []int{8, 258}, of(Comma(m, 8, 258)), answer{want, 16, api.OK})
}

func TestCommaInTheGreatestMemory(t *testing.T) {
	m, _ := mem.New(api.Most)
	for _, here := range []int{0, 8, 1376, 65520, 65527, 65528, 65529, 65535, 65536} {
		got, want := of(Comma(m, here, -258)), commaByHand(m, here, -258)
		if got.here != want.here || got.code != want.code || !alike(got.m, want.m) {
			t.Error(here, got.here, got.code)
		}
	}
}

func TestWhatIsLaidByCommaIsFetched(t *testing.T) {
	for _, n := range cells() {
		m, here := done(t, of(Comma(memory(24), 8, n)))
		if got, code := mem.Fetch(m, here-8); got != n || code != api.OK {
			t.Error(n, got, code)
		}
	}
}

// P5.4

func TestAlignUpAtAllEnds(t *testing.T) {
	for _, size := range append(sizes(), 2048) {
		m := memory(size)
		for here := range size + 1 {
			end := here
			for end%8 != 0 {
				end++
			}
			want := answer{laidByHand(m, here, make([]byte, end-here)), end, api.OK}
			got := of(AlignUp(m, here))
			expect(t, "AlignUp", []int{size, here}, got, want)
			expect(t, "AlignUp twice", []int{size, here}, of(AlignUp(got.m, got.here)), want)
		}
	}
}

func TestAlignUpByExample(t *testing.T) {
	m := api.Mem{B: []byte{1, 2, 3, 4, 5, 6, 7, 8, 9, 10, 11, 12, 13, 14, 15, 16}}
	for _, x := range []struct {
		here, end int
		patches   []api.Patch
		noughts   int
	}{
		{0, 0, nil, 0}, {8, 8, nil, 0}, {16, 16, nil, 0},
		{1, 8, []api.Patch{{At: 1, Old: []byte{2, 3, 4, 5, 6, 7, 8}}}, 7},
		{7, 8, []api.Patch{{At: 7, Old: []byte{8}}}, 1},
		{9, 16, []api.Patch{{At: 9, Old: []byte{10, 11, 12, 13, 14, 15, 16}}}, 7},
		{15, 16, []api.Patch{{At: 15, Old: []byte{16}}}, 1},
	} {
		want := api.Mem{B: append([]byte{}, m.B...), Old: x.patches}
		copy(want.B[x.here:], make([]byte, x.noughts))
		expect(t, "AlignUp", []int{x.here}, of(AlignUp(m, x.here)), answer{want, x.end, api.OK})
	}
}

func TestAlignUpInTheGreatestMemory(t *testing.T) {
	m, _ := mem.New(api.Most)
	for here := api.Most - 8; here <= api.Most; here++ {
		want := api.Most
		if here == api.Most-8 {
			want = here
		}
		if got, end, code := AlignUp(m, here); end != want || code != api.OK || mem.Mark(got) == 0 != (want == here) {
			t.Error(here, end, code)
		}
	}
}

// P5.5

func TestExamplesOfTheChapter(t *testing.T) {
	m, _ := mem.New(16)
	m, here := done(t, of(AlignUp(m, 3)))
	if here != 8 {
		t.Error("AlignUp at 3:", here)
	}
	m, here = done(t, of(Comma(m, here, 5)))
	if n, code := mem.Fetch(m, 8); here != 16 || n != 5 || code != api.OK {
		t.Error("Comma of 5:", here, n, code)
	}
	expect(t, "Comma", []int{3}, of(Comma(m, 3, 5)), answer{m, 3, api.Align})
}

// laying is one way to lay something, and what it lays, by hand, at an end.
type laying struct {
	name string
	call func(m api.Mem, here int) answer
	lays func(here int) []byte
}

// layings are ways of laying of all calls.
func layings() []laying {
	comma := func(n int) laying {
		return laying{"Comma", func(m api.Mem, here int) answer { return of(Comma(m, here, n)) }, func(int) []byte { return bytesOf(n) }}
	}
	lay := func(text string) laying {
		return laying{"Lay", func(m api.Mem, here int) answer { return of(Lay(m, here, []byte(text))) }, func(int) []byte { return []byte(text) }}
	}
	up := func(here int) []byte { return make([]byte, -here&7) }
	return []laying{
		comma(0), comma(-1), comma(258), comma(least), lay(""), lay("\x00"), lay("A"), lay("abcdefghi"),
		{"AlignUp", func(m api.Mem, here int) answer { return of(AlignUp(m, here)) }, up},
	}
}

// layMany lays one thing behind the other till there is no room, and answers all memories, each with the end that it had.
func layMany(t *testing.T, m api.Mem, here int, seed int64) []answer {
	t.Helper()
	pick := rand.New(rand.NewSource(seed))
	all := []answer{{m, here, api.OK}}
	for range 200 {
		x := layings()[pick.Intn(len(layings()))]
		got, b := x.call(m, here), x.lays(here)
		want := answer{m, here, got.code}
		switch {
		case x.name == "Comma" && here%8 != 0:
			want.code = api.Align
		case here+len(b) > len(m.B):
			want.code = api.Space
		default:
			want = answer{laidByHand(m, here, b), here + len(b), api.OK}
		}
		expect(t, x.name, []int{here}, got, want)
		m, here = got.m, got.here
		all = append(all, got)
	}
	return all
}

func TestWhatIsLaidStandsAheadOfTheEnd(t *testing.T) {
	for seed := range int64(20) {
		all := layMany(t, memory(256), int(seed), seed)
		last := all[len(all)-1]
		for i, x := range all {
			if x.here > last.here || string(x.m.B[:x.here]) != string(last.m.B[:x.here]) {
				t.Error(seed, i, "what stood ahead of the end is changed")
			}
			if string(x.m.B[x.here:]) != string(all[0].m.B[x.here:]) {
				t.Error(seed, i, "what stands behind the end is changed")
			}
		}
	}
}

func TestWhatIsLaidCanBeUndone(t *testing.T) {
	for seed := range int64(20) {
		all := layMany(t, memory(256), int(seed), seed)
		last := all[len(all)-1].m
		for i, x := range all {
			if back, code := mem.Back(last, mem.Mark(x.m)); code != api.OK || !alike(back, x.m) {
				t.Error(seed, i, code, "isn't what it was")
			}
		}
	}
}

func TestEachCallCanBeUndone(t *testing.T) {
	m := memory(24)
	for _, x := range layings() {
		for here := range 25 {
			got := x.call(m, here)
			if back, code := mem.Back(got.m, mem.Mark(m)); code != api.OK || !alike(back, m) {
				t.Error(x.name, here, code, "isn't what it was")
			}
		}
	}
}

// R3

// roomy is a memory with patches, and with room behind all its rows, into which a call could write unseen.
func roomy() api.Mem {
	m := api.Mem{B: append(make([]byte, 0, 64), memory(16).B...), Old: make([]api.Patch, 3, 16)}
	for i := range m.Old {
		m.Old[i] = api.Patch{At: i, Old: append(make([]byte, 0, 32), byte(50+i), byte(60+i))}
	}
	return m
}

// whole is a memory with the room behind its rows, those of its patches too.
func whole(m api.Mem) api.Mem {
	out := api.Mem{B: m.B[:cap(m.B)]}
	for _, p := range m.Old[:cap(m.Old)] {
		out.Old = append(out.Old, api.Patch{At: p.At, Old: p.Old[:cap(p.Old)]})
	}
	return deep(out)
}

// calls are all calls that answer a memory, with and without a code, so that each can be held against all others.
func calls() map[string]func(m api.Mem) api.Mem {
	return map[string]func(m api.Mem) api.Mem{
		"Lay":            func(m api.Mem) api.Mem { return of(Lay(m, 2, []byte{201, 202})).m },
		"Lay all":        func(m api.Mem) api.Mem { return of(Lay(m, 0, row(16))).m },
		"Lay of nothing": func(m api.Mem) api.Mem { return of(Lay(m, 16, nil)).m },
		"Lay, Space":     func(m api.Mem) api.Mem { return of(Lay(m, 15, row(2))).m },
		"Comma":          func(m api.Mem) api.Mem { return of(Comma(m, 8, -3)).m },
		"Comma, Align":   func(m api.Mem) api.Mem { return of(Comma(m, 3, -3)).m },
		"Comma, Space":   func(m api.Mem) api.Mem { return of(Comma(m, 16, -3)).m },
		"AlignUp":        func(m api.Mem) api.Mem { return of(AlignUp(m, 1)).m },
		"AlignUp at 8":   func(m api.Mem) api.Mem { return of(AlignUp(m, 8)).m },
		"Allot":          func(m api.Mem) api.Mem { Allot(m, 0, 3, 5); return m },
		"Allot, Space":   func(m api.Mem) api.Mem { Allot(m, 0, 3, 50); return m },
	}
}

func TestNoCallWritesIntoItsMemory(t *testing.T) {
	for name, call := range calls() {
		m := roomy()
		was := whole(m)
		call(m)
		if !alike(whole(m), was) {
			t.Error(name, "wrote into its memory")
		}
	}
}

func TestALaterCallChangesNoAnswer(t *testing.T) {
	for firstName, first := range calls() {
		for secondName, second := range calls() {
			m := roomy()
			a := first(m)
			wasA := deep(a)
			b := second(m)
			wasB := deep(b)
			c := second(a)
			wasC := deep(c)
			first(b)
			second(c)
			if !alike(m, roomy()) || !alike(a, wasA) || !alike(b, wasB) || !alike(c, wasC) {
				t.Error(firstName, "and", secondName, "are seen in each other's memory")
			}
		}
	}
}

func TestBytesThatAreLaidAreNeitherChangedNorKept(t *testing.T) {
	for _, x := range []struct{ here, n int }{{0, 16}, {3, 5}, {15, 1}, {16, 0}, {16, 3}, {0, 17}} {
		b := append(make([]byte, 0, 64), row(x.n)...)
		got := of(Lay(memory(16), x.here, b))
		was := deep(got.m)
		if string(b) != string(row(x.n)) || string(b[x.n:cap(b)]) != string(make([]byte, cap(b)-x.n)) {
			t.Error(x, "wrote into its bytes")
		}
		for i := range b {
			b[i] = 77
		}
		if !alike(got.m, was) {
			t.Error(x, "kept its bytes")
		}
	}
}

// A memory's own bytes may be laid into it.
func TestLayOfTheMemorysOwnBytes(t *testing.T) {
	m := memory(16)
	want := answer{laidByHand(m, 2, append([]byte{}, m.B[:9]...)), 11, api.OK}
	expect(t, "Lay", []int{2}, of(Lay(m, 2, m.B[:9])), want)
	if !alike(m, memory(16)) {
		t.Error("wrote into its memory")
	}
}

// Of ends and memories that may not be nothing is promised, but that a call ends, and that a code leaves all as it was.
func TestWrongEndsAndMemoriesAreAnswered(t *testing.T) {
	ends := []int{least, least + 1, least + 7, -65536, -9, -8, -7, -1, 17, 24, 65537, 1 << 32, most - 8, most - 7, most - 1, most}
	for _, m := range []api.Mem{{}, {B: make([]byte, 7)}, memory(16), {B: make([]byte, 65544)}} {
		for _, here := range ends {
			for _, got := range []answer{of(Lay(m, here, nil)), of(Lay(m, here, row(1))), of(Lay(m, here, row(20))), of(Comma(m, here, 5)), of(AlignUp(m, here))} {
				if got.code != api.OK && (got.here != here || !alike(got.m, m)) {
					t.Error(len(m.B), here, got.here, got.code)
				}
			}
			for _, n := range cells() {
				Allot(m, 0, here, n)
				Allot(m, here, 0, n)
			}
		}
	}
}
