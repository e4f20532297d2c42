package mem

import (
	"bytes"
	"encoding/binary"
	"math"
	"math/big"
	"math/rand"
	"reflect"
	"testing"

	"detent/api"
)

const (
	least = math.MinInt
	most  = math.MaxInt
)

// numbered is a memory whose bytes are all different from their neighbours, and from noughts.
func numbered(n int) api.Mem {
	m := api.Mem{B: make([]byte, n)}
	for i := range m.B {
		m.B[i] = byte(i%251 + 1)
	}
	return m
}

// deep is a memory that shares nothing with another one, not even room behind its rows.
func deep(m api.Mem) api.Mem {
	out := api.Mem{B: append([]byte{}, m.B...)}
	for _, p := range m.Old {
		out.Old = append(out.Old, api.Patch{At: p.At, Old: append([]byte{}, p.Old...)})
	}
	return out
}

// alike holds two memories against each other without a call of the package.
func alike(a, b api.Mem) bool { return reflect.DeepEqual(deep(a), deep(b)) }

// isThere is the chapter's word, by whole numbers of any size.
func isThere(size, at, n int) bool {
	end := new(big.Int).Add(big.NewInt(int64(at)), big.NewInt(int64(n)))
	return n == 0 || n > 0 && at >= 0 && end.Cmp(big.NewInt(int64(size))) <= 0
}

// written is the chapter's write, byte by byte.
func written(m api.Mem, at int, b []byte) api.Mem {
	out := deep(m)
	if len(b) == 0 {
		return out
	}
	var stood []byte
	for i, c := range b {
		stood = append(stood, out.B[at+i])
		out.B[at+i] = c
	}
	out.Old = append(out.Old, api.Patch{At: at, Old: stood})
	return out
}

// near is all numbers around a memory of so many bytes, and those near the ends of all numbers.
func near(size int) []int {
	all := []int{
		least, least + 1, least + 7, least + 8, -1 << 32, -api.Most, most - size - 1, most - size, most - size + 1,
		1 << 32, api.Most, most - 8, most - 7, most - 1, most,
	}
	for n := -size - 9; n <= 2*size+9; n++ {
		all = append(all, n)
	}
	return all
}

// expect holds what a call that writes answered against what it should.
func expect(t *testing.T, what string, args []int, got api.Mem, code api.Throw, want api.Mem, wantCode api.Throw) {
	t.Helper()
	if !alike(got, want) || code != wantCode {
		t.Errorf("%s%v: %v, %d, want %v, %d", what, args, got, code, want, wantCode)
	}
}

// done is the memory of a call that had to go well.
func done(t *testing.T) func(api.Mem, api.Throw) api.Mem {
	return func(m api.Mem, code api.Throw) api.Mem {
		t.Helper()
		if code != api.OK {
			t.Fatal("code", code)
		}
		return m
	}
}

// P3.1

func TestNewIsNoughtsWithoutPatches(t *testing.T) {
	for _, n := range []int{8, 16, 24, 2048, 65528, 65536} {
		m, code := New(n)
		if code != api.OK || !bytes.Equal(m.B, make([]byte, n)) || len(m.Old) != 0 {
			t.Error(n, len(m.B), m.Old, code)
		}
		if !Right(m) {
			t.Error(n, "isn't right")
		}
	}
}

func TestNewRefuses(t *testing.T) {
	for _, n := range []int{
		least, least + 8, -65536, -16, -8, -1, 0, 1, 4, 7, 9, 12, 15, 17, 2047, 2049, 65535, 65537, 65540, 65544, 65552, 131072, 1 << 32, most - 7, most,
	} {
		if m, code := New(n); code != api.BadNumber || len(m.B) != 0 || len(m.Old) != 0 {
			t.Error(n, len(m.B), m.Old, code)
		}
	}
}

func TestNewHandsOutMemoryOfItsOwn(t *testing.T) {
	a, _ := New(8)
	b, _ := New(8)
	a.B[3] = 1
	if b.B[3] != 0 {
		t.Error("one memory is seen in another one")
	}
}

func TestRightByLength(t *testing.T) {
	for n, want := range map[int]bool{
		0: true, 1: false, 4: false, 7: false, 8: true, 9: false, 12: false, 16: true, 2048: true,
		65528: true, 65532: false, 65535: false, 65536: true, 65537: false, 65544: false, 131072: false,
	} {
		if got := Right(api.Mem{B: make([]byte, n)}); got != want {
			t.Errorf("%d bytes: %v", n, got)
		}
	}
	if !Right(api.Mem{}) {
		t.Error("no bytes at all")
	}
}

func TestRightByPatches(t *testing.T) {
	for _, size := range []int{0, 8, 24} {
		for _, at := range near(size) {
			for n := range 2*size + 3 {
				m := api.Mem{B: make([]byte, size), Old: []api.Patch{{At: at, Old: make([]byte, n)}}}
				if got := Right(m); got != isThere(size, at, n) {
					t.Errorf("of %d bytes a patch of %d at %d: %v", size, n, at, got)
				}
			}
		}
	}
}

func TestRightAsksEachPatch(t *testing.T) {
	good, bad := api.Patch{At: 1, Old: []byte{7, 7}}, api.Patch{At: 7, Old: []byte{7, 7}}
	for _, x := range []struct {
		old  []api.Patch
		want bool
	}{
		{[]api.Patch{}, true}, {[]api.Patch{good, good, good}, true},
		{[]api.Patch{bad, good, good}, false}, {[]api.Patch{good, bad, good}, false}, {[]api.Patch{good, good, bad}, false},
	} {
		if got := Right(api.Mem{B: make([]byte, 8), Old: x.old}); got != x.want {
			t.Error(x.old, got)
		}
	}
}

// A patch that tells of no bytes tells of none that aren't in B, wherever it is.
func TestRightLetsPatchesOfNoBytesBeAnywhere(t *testing.T) {
	for _, at := range near(8) {
		for _, none := range [][]byte{nil, {}} {
			if !Right(api.Mem{B: make([]byte, 8), Old: []api.Patch{{At: at, Old: none}}}) {
				t.Error(at)
			}
		}
	}
}

func TestSameLooksAtAllBytesAndPatches(t *testing.T) {
	m := numbered(16)
	m.Old = []api.Patch{{At: 3, Old: []byte{1, 2, 3}}, {At: 9, Old: []byte{4}}, {At: 3, Old: []byte{5, 6, 7}}}
	others := map[string]api.Mem{"no bytes": {Old: m.Old}, "fewer bytes": {B: m.B[:8], Old: m.Old}, "nothing": {}}
	change := func(name string, how func(*api.Mem)) {
		o := deep(m)
		how(&o)
		others[name] = o
	}
	for i := range m.B {
		change("byte "+string(rune('a'+i)), func(o *api.Mem) { o.B[i] ^= 0x10 })
	}
	change("more bytes", func(o *api.Mem) { o.B = append(o.B, make([]byte, 8)...) })
	change("one patch less", func(o *api.Mem) { o.Old = o.Old[:2] })
	change("the first patch gone", func(o *api.Mem) { o.Old = o.Old[1:] })
	change("one patch more", func(o *api.Mem) { o.Old = append(o.Old, api.Patch{}) })
	change("another order", func(o *api.Mem) { o.Old[0], o.Old[2] = o.Old[2], o.Old[0] })
	for i := range m.Old {
		name := string(rune('0' + i))
		change("another place "+name, func(o *api.Mem) { o.Old[i].At++ })
		change("another byte "+name, func(o *api.Mem) { o.Old[i].Old[len(o.Old[i].Old)-1]++ })
		change("a byte less "+name, func(o *api.Mem) { o.Old[i].Old = o.Old[i].Old[1:] })
		change("a byte more "+name, func(o *api.Mem) { o.Old[i].Old = append(o.Old[i].Old, 0) })
	}
	if !Same(m, m) || !Same(m, deep(m)) || !Same(deep(m), m) {
		t.Error("a memory isn't the same as itself")
	}
	for name, o := range others {
		if Same(m, o) || Same(o, m) {
			t.Error(name, "is the same")
		}
		if !Same(o, deep(o)) {
			t.Error(name, "isn't the same as itself")
		}
	}
}

func TestSameOfListsWithoutElements(t *testing.T) {
	if !Same(api.Mem{}, api.Mem{B: []byte{}, Old: []api.Patch{}}) {
		t.Error("no bytes, no patches")
	}
	a := api.Mem{B: make([]byte, 8), Old: []api.Patch{{At: 99}}}
	b := api.Mem{B: make([]byte, 8, 64), Old: []api.Patch{{At: 99, Old: []byte{}}}}
	if !Same(a, b) || !Same(b, a) {
		t.Error("a patch of no bytes")
	}
}

// Same is promised of any memory, also of one that isn't right.
func TestSameOfMemoriesThatArentRight(t *testing.T) {
	a := api.Mem{B: make([]byte, 3), Old: []api.Patch{{At: -5, Old: []byte{1}}}}
	b := deep(a)
	if !Same(a, b) {
		t.Error("isn't the same")
	}
	b.Old[0].At = least
	if Same(a, b) {
		t.Error("is the same")
	}
}

// P3.2

// cellCodeByHand is what the chapter says of a cell at a place.
func cellCodeByHand(size, at int) api.Throw {
	switch {
	case !isThere(size, at, 8):
		return api.Address
	case at%8 != 0:
		return api.Align
	}
	return api.OK
}

func TestFetchAndStoreAtEachPlace(t *testing.T) {
	for _, size := range []int{0, 8, 16, 24} {
		m := numbered(size)
		for _, at := range near(size) {
			wantCode := cellCodeByHand(size, at)
			wantCell, wantMem := 0, m
			const n = -0x0123456789abcdef
			if wantCode == api.OK {
				wantCell = int(binary.LittleEndian.Uint64(m.B[at:]))
				number := n
				wantMem = written(m, at, binary.LittleEndian.AppendUint64(nil, uint64(number)))
			}
			if got, code := Fetch(m, at); got != wantCell || code != wantCode {
				t.Errorf("of %d bytes Fetch at %d: %d, %d, want %d, %d", size, at, got, code, wantCell, wantCode)
			}
			got, code := Store(m, at, n)
			expect(t, "Store", []int{size, at}, got, code, wantMem, wantCode)
		}
	}
}

func TestCellCodesByExample(t *testing.T) {
	for _, x := range []struct {
		size, at int
		want     api.Throw
	}{
		{16, 0, api.OK}, {16, 8, api.OK}, {16, 4, api.Align}, {16, 1, api.Align}, {16, 7, api.Align},
		{16, 9, api.Address}, {16, 12, api.Address}, {16, 15, api.Address}, {16, 16, api.Address}, {16, 24, api.Address},
		{16, -1, api.Address}, {16, -4, api.Address}, {16, -8, api.Address}, {16, least, api.Address}, {16, most, api.Address}, {16, most - 7, api.Address},
		{8, 0, api.OK}, {8, 1, api.Address}, {8, 8, api.Address},
		{65536, 65528, api.OK}, {65536, 65527, api.Align}, {65536, 65529, api.Address}, {65536, 65536, api.Address},
	} {
		m := numbered(x.size)
		if n, code := Fetch(m, x.at); code != x.want || code != api.OK && n != 0 {
			t.Errorf("of %d bytes Fetch at %d: %d, %d", x.size, x.at, n, code)
		}
		if o, code := Store(m, x.at, 5); code != x.want || code != api.OK && !alike(o, m) {
			t.Errorf("of %d bytes Store at %d: %d", x.size, x.at, code)
		}
	}
}

func TestStoreKeepsWhatStoodThere(t *testing.T) {
	m := done(t)(New(16))
	m = done(t)(Store(m, 8, 258))
	m = done(t)(Store(m, 8, -1))
	want := api.Mem{
		B:   []byte{0, 0, 0, 0, 0, 0, 0, 0, 255, 255, 255, 255, 255, 255, 255, 255},
		Old: []api.Patch{{At: 8, Old: make([]byte, 8)}, {At: 8, Old: []byte{2, 1, 0, 0, 0, 0, 0, 0}}},
	}
	expect(t, "Store", nil, m, api.OK, want, api.OK)
}

// What is stored again, as it stands there, is a write like any other one.
func TestAWriteOfWhatStandsThereIsAPatchToo(t *testing.T) {
	m := done(t)(New(8))
	m = done(t)(Store(m, 0, 0))
	m = done(t)(StoreByte(m, 7, 0))
	m = done(t)(Fill(m, 2, 3, 0))
	m = done(t)(Move(m, 0, 0, 8))
	m = done(t)(Write(m, 1, []byte{0}))
	if Mark(m) != 5 || !bytes.Equal(m.B, make([]byte, 8)) {
		t.Error(m)
	}
}

func TestBytesAtEachPlace(t *testing.T) {
	for _, size := range []int{0, 8, 24} {
		m := numbered(size)
		for _, at := range near(size) {
			wantByte, wantMem, wantCode := 0, m, api.Address
			if isThere(size, at, 1) {
				wantByte, wantMem, wantCode = int(m.B[at]), written(m, at, []byte{0xfe}), api.OK
			}
			if got, code := FetchByte(m, at); got != wantByte || code != wantCode {
				t.Errorf("of %d bytes FetchByte at %d: %d, %d", size, at, got, code)
			}
			got, code := StoreByte(m, at, 0xfe)
			expect(t, "StoreByte", []int{size, at}, got, code, wantMem, wantCode)
		}
	}
}

func TestStoreByteTakesTheLowestBits(t *testing.T) {
	m := numbered(8)
	for n := -600; n <= 600; n++ {
		o := done(t)(StoreByte(m, 5, n))
		if got, code := FetchByte(o, 5); got != (n%256+256)%256 || code != api.OK {
			t.Error(n, got, code)
		}
	}
	for n, want := range map[int]int{most: 255, least: 0, least + 3: 3, 1 << 32: 0, 1<<40 + 0x1ff: 255, -1: 255, -256: 0, 255: 255, 256: 0} {
		o := done(t)(StoreByte(m, 5, n))
		if got, _ := FetchByte(o, 5); got != want {
			t.Error(n, got)
		}
	}
}

// P3.3

func TestTextsFillsAndWritesOfAllPlaces(t *testing.T) {
	for _, size := range []int{0, 8, 16} {
		m := numbered(size)
		for _, at := range near(size) {
			for _, n := range near(size) {
				checkTextAndFill(t, m, at, n)
			}
			for n := range 2*size + 3 {
				checkWrite(t, m, at, n)
			}
		}
	}
}

func checkTextAndFill(t *testing.T, m api.Mem, at, n int) {
	t.Helper()
	var wantText []byte
	wantMem, wantCode := m, api.Address
	if isThere(len(m.B), at, n) {
		for i := range n {
			wantText = append(wantText, m.B[at+i])
		}
		wantMem, wantCode = written(m, at, bytes.Repeat([]byte{0xab}, n)), api.OK
	}
	if got, code := Text(m, at, n); !bytes.Equal(got, wantText) || code != wantCode {
		t.Errorf("of %d bytes Text(%d, %d): %v, %d", len(m.B), at, n, got, code)
	}
	got, code := Fill(m, at, n, 0xab)
	expect(t, "Fill", []int{len(m.B), at, n}, got, code, wantMem, wantCode)
}

func checkWrite(t *testing.T, m api.Mem, at, n int) {
	t.Helper()
	b := make([]byte, n)
	for i := range b {
		b[i] = byte(200 - i)
	}
	wantMem, wantCode := m, api.Address
	if isThere(len(m.B), at, n) {
		wantMem, wantCode = written(m, at, b), api.OK
	}
	got, code := Write(m, at, b)
	expect(t, "Write", []int{len(m.B), at, n}, got, code, wantMem, wantCode)
}

func TestMovesOfAllPlaces(t *testing.T) {
	for _, size := range []int{0, 8} {
		m := numbered(size)
		for _, from := range near(size) {
			for _, to := range near(size) {
				for _, n := range near(size) {
					wantMem, wantCode := m, api.Address
					if isThere(size, from, n) && isThere(size, to, n) {
						wantMem, wantCode = m, api.OK
						if n > 0 {
							wantMem = written(m, to, append([]byte{}, m.B[from:from+n]...))
						}
					}
					got, code := Move(m, from, to, n)
					expect(t, "Move", []int{size, from, to, n}, got, code, wantMem, wantCode)
				}
			}
		}
	}
}

func TestMoveOverItself(t *testing.T) {
	m := api.Mem{B: []byte{1, 2, 3, 4, 5, 6, 7, 8}}
	for _, x := range []struct {
		from, to, n int
		want, old   []byte
	}{
		{0, 2, 5, []byte{1, 2, 1, 2, 3, 4, 5, 8}, []byte{3, 4, 5, 6, 7}},
		{2, 0, 5, []byte{3, 4, 5, 6, 7, 6, 7, 8}, []byte{1, 2, 3, 4, 5}},
		{0, 1, 7, []byte{1, 1, 2, 3, 4, 5, 6, 7}, []byte{2, 3, 4, 5, 6, 7, 8}},
		{1, 0, 7, []byte{2, 3, 4, 5, 6, 7, 8, 8}, []byte{1, 2, 3, 4, 5, 6, 7}},
		{0, 0, 8, []byte{1, 2, 3, 4, 5, 6, 7, 8}, []byte{1, 2, 3, 4, 5, 6, 7, 8}},
		{0, 4, 4, []byte{1, 2, 3, 4, 1, 2, 3, 4}, []byte{5, 6, 7, 8}},
	} {
		got, code := Move(m, x.from, x.to, x.n)
		expect(t, "Move", []int{x.from, x.to, x.n}, got, code, api.Mem{B: x.want, Old: []api.Patch{{At: x.to, Old: x.old}}}, api.OK)
	}
}

func TestFillTakesTheLowestBits(t *testing.T) {
	m := numbered(8)
	for c, want := range map[int]byte{0: 0, 255: 255, 256: 0, 258: 2, 1000: 232, -1: 255, -2: 254, -256: 0, -257: 255, most: 255, least: 0, least + 1: 1} {
		got, code := Fill(m, 1, 6, c)
		expect(t, "Fill", []int{c}, got, code, written(m, 1, bytes.Repeat([]byte{want}, 6)), api.OK)
	}
}

func TestNoBytesAreThereAnywhere(t *testing.T) {
	m := done(t)(StoreByte(numbered(8), 3, 77))
	for _, at := range near(8) {
		if text, code := Text(m, at, 0); len(text) != 0 || code != api.OK {
			t.Error(at, text, code)
		}
		for _, none := range [][]byte{nil, {}} {
			got, code := Write(m, at, none)
			expect(t, "Write", []int{at}, got, code, m, api.OK)
		}
		got, code := Fill(m, at, 0, 9)
		expect(t, "Fill", []int{at}, got, code, m, api.OK)
		got, code = Move(m, at, -at, 0)
		expect(t, "Move", []int{at}, got, code, m, api.OK)
	}
}

func TestAllBytesOfTheGreatestMemory(t *testing.T) {
	m := numbered(api.Most)
	if text, code := Text(m, 0, api.Most); !bytes.Equal(text, m.B) || code != api.OK {
		t.Error(len(text), code)
	}
	full := bytes.Repeat([]byte{9}, api.Most)
	o := done(t)(Fill(m, 0, api.Most, 9))
	if !bytes.Equal(o.B, full) || !alike(api.Mem{Old: o.Old}, api.Mem{Old: []api.Patch{{Old: m.B}}}) {
		t.Error("Fill")
	}
	o = done(t)(Write(o, 0, m.B))
	o = done(t)(Move(o, 1, 0, api.Most-1))
	if !bytes.Equal(o.B[:api.Most-1], m.B[1:]) || Mark(o) != 3 {
		t.Error("Move")
	}
	if _, code := Text(m, 1, api.Most); code != api.Address {
		t.Error(code)
	}
	if o, code := Fill(m, 0, api.Most+1, 9); code != api.Address || !alike(o, m) {
		t.Error(code)
	}
	if o, code := Write(m, 0, make([]byte, api.Most+1)); code != api.Address || !alike(o, m) {
		t.Error(code)
	}
}

// P3.4

func TestMarkCountsPatches(t *testing.T) {
	m := done(t)(New(16))
	for i := range 20 {
		if Mark(m) != i {
			t.Error(i, Mark(m))
		}
		m = done(t)(StoreByte(m, i%16, i))
	}
	if Mark(api.Mem{}) != 0 || Mark(api.Mem{Old: make([]api.Patch, 7)}) != 7 {
		t.Error("of patches that weren't written")
	}
}

func TestBackRefusesMarksThatThereArent(t *testing.T) {
	m := done(t)(StoreByte(numbered(8), 0, 99))
	m = done(t)(StoreByte(m, 1, 98))
	for _, mark := range []int{least, least + 1, -8, -1, 3, 4, 1 << 32, most} {
		got, code := Back(m, mark)
		expect(t, "Back", []int{mark}, got, code, m, api.BadNumber)
	}
	if got, code := Back(api.Mem{}, 0); code != api.OK || !alike(got, api.Mem{}) {
		t.Error(got, code)
	}
	if got, code := Back(api.Mem{}, 1); code != api.BadNumber || !alike(got, api.Mem{}) {
		t.Error(got, code)
	}
}

func TestBackToNowIsNoChange(t *testing.T) {
	m := done(t)(Fill(numbered(8), 2, 3, 0))
	got, code := Back(m, Mark(m))
	expect(t, "Back", nil, got, code, m, api.OK)
}

func TestBackByExample(t *testing.T) {
	m := done(t)(New(16))
	m = done(t)(Store(m, 8, 258))
	got, code := Back(m, 0)
	expect(t, "Back", nil, got, code, api.Mem{B: make([]byte, 16)}, api.OK)
}

// Patches that overlap tell of each other's bytes: only from the last one down they give back what was.
func TestBackOverPatchesThatOverlap(t *testing.T) {
	states := []api.Mem{numbered(16)}
	for i, x := range [][2]int{{0, 8}, {4, 8}, {6, 3}, {6, 3}, {0, 16}, {15, 1}, {8, 8}, {7, 2}} {
		last := states[len(states)-1]
		states = append(states, done(t)(Fill(last, x[0], x[1], 100+i)))
	}
	last := states[len(states)-1]
	for mark, want := range states {
		got, code := Back(last, mark)
		expect(t, "Back", []int{mark}, got, code, want, api.OK)
	}
	for from := range states {
		for mark := range from + 1 {
			got, code := Back(states[from], mark)
			expect(t, "Back", []int{from, mark}, got, code, states[mark], api.OK)
		}
	}
}

// Right memories may have patches that no call wrote: they are undone like others.
func TestBackOverPatchesOfAnyRightMemory(t *testing.T) {
	m := api.Mem{B: []byte{1, 2, 3, 4, 5, 6, 7, 8}, Old: []api.Patch{
		{At: 0, Old: []byte{10, 11, 12, 13, 14, 15, 16, 17}},
		{At: 3},
		{At: 6, Old: []byte{20, 21}},
		{At: 5, Old: []byte{30, 31}},
	}}
	for mark, want := range [][]byte{
		{10, 11, 12, 13, 14, 15, 16, 17}, {1, 2, 3, 4, 5, 30, 20, 21}, {1, 2, 3, 4, 5, 30, 20, 21}, {1, 2, 3, 4, 5, 30, 31, 8}, {1, 2, 3, 4, 5, 6, 7, 8},
	} {
		got, code := Back(m, mark)
		expect(t, "Back", []int{mark}, got, code, api.Mem{B: want, Old: m.Old[:mark]}, api.OK)
	}
}

func TestBackOverPatchesOfNoBytesAnywhere(t *testing.T) {
	for _, size := range []int{0, 8} {
		for _, at := range near(size) {
			m := numbered(size)
			m.Old = []api.Patch{{At: at}, {At: -at, Old: []byte{}}}
			for mark := range 3 {
				got, code := Back(m, mark)
				expect(t, "Back", []int{size, at, mark}, got, code, api.Mem{B: m.B, Old: m.Old[:mark]}, api.OK)
			}
		}
	}
}

func TestFreeHasNoPatches(t *testing.T) {
	m := done(t)(Fill(numbered(8), 2, 3, 0))
	free := Free(m)
	if !alike(free, api.Mem{B: m.B}) || Mark(free) != 0 || Mark(m) != 1 {
		t.Error(free)
	}
	got, code := Back(free, 0)
	expect(t, "Back", nil, got, code, free, api.OK)
	got, code = Back(free, 1)
	expect(t, "Back", nil, got, code, free, api.BadNumber)
	if !alike(Free(free), free) || !alike(Free(api.Mem{}), api.Mem{}) {
		t.Error("where there are none")
	}
}

// P3.5

// writers are the calls that write, each at places that hang on a number.
func writers() map[string]func(m api.Mem, n int) (api.Mem, api.Throw) {
	return map[string]func(m api.Mem, n int) (api.Mem, api.Throw){
		"Store":     func(m api.Mem, n int) (api.Mem, api.Throw) { return Store(m, n%(len(m.B)/8)*8, n*0x0101010101) },
		"StoreByte": func(m api.Mem, n int) (api.Mem, api.Throw) { return StoreByte(m, n%len(m.B), n) },
		"Write":     func(m api.Mem, n int) (api.Mem, api.Throw) { return Write(m, n%(len(m.B)-3), []byte{byte(n), 2, 1}) },
		"Fill":      func(m api.Mem, n int) (api.Mem, api.Throw) { return Fill(m, n%5, n%(len(m.B)-5), n) },
		"Move": func(m api.Mem, n int) (api.Mem, api.Throw) {
			return Move(m, n%7, n/7%7, n%(len(m.B)-7))
		},
	}
}

func TestBackBehindEachKindOfWrite(t *testing.T) {
	for name, write := range writers() {
		for n := range 300 {
			m := done(t)(StoreByte(numbered(24), 5, 250))
			o := done(t)(write(m, n))
			o = done(t)(write(o, n+1))
			got, code := Back(o, 1)
			expect(t, "Back behind "+name, []int{n}, got, code, m, api.OK)
			if !Right(o) || !Right(got) || !Same(got, m) {
				t.Error(name, n)
			}
		}
	}
}

func TestBackToAnyMarkOfManyWrites(t *testing.T) {
	kinds := []string{"Store", "StoreByte", "Write", "Fill", "Move"}
	chance := rand.New(rand.NewSource(3))
	write := writers()
	for range 20 {
		states := []api.Mem{numbered(40)}
		marks := []int{0}
		for range 60 {
			last := states[len(states)-1]
			next := done(t)(write[kinds[chance.Intn(len(kinds))]](last, chance.Intn(10000)))
			states, marks = append(states, next), append(marks, Mark(next))
		}
		last := states[len(states)-1]
		for i, mark := range marks {
			got, code := Back(last, mark)
			if code != api.OK || !bytes.Equal(got.B, states[i].B) || Mark(got) != mark || !Right(got) {
				t.Error(i, mark, code)
			}
		}
	}
}

func TestWhatIsStoredIsFetchedAndTheRestStays(t *testing.T) {
	m := numbered(64)
	for at := 0; at < 64; at += 8 {
		for _, n := range []int{0, 1, -1, 258, least, most, 0x0123456789abcdef, -0x0123456789abcdef} {
			o := done(t)(Store(m, at, n))
			if got, code := Fetch(o, at); got != n || code != api.OK {
				t.Error(at, n, got, code)
			}
			for other := 0; other < 64; other++ {
				was, _ := FetchByte(m, other)
				if got, _ := FetchByte(o, other); got != was && (other < at || other >= at+8) {
					t.Error(at, n, "also changed", other)
				}
			}
		}
	}
}

func TestWhatIsWrittenIsReadAndTheRestStays(t *testing.T) {
	m := numbered(24)
	for at := range 24 {
		for n := range 24 - at + 1 {
			b := bytes.Repeat([]byte{222}, n)
			o := done(t)(Write(m, at, b))
			got, code := Text(o, at, n)
			if !bytes.Equal(got, b) || code != api.OK || !bytes.Equal(o.B[:at], m.B[:at]) || !bytes.Equal(o.B[at+n:], m.B[at+n:]) {
				t.Error(at, n, o.B)
			}
		}
	}
}

// R3

// calls are all calls that answer a memory, with what they write, so that each can be held against all others.
func calls() map[string]func(m api.Mem) api.Mem {
	first := func(m api.Mem, _ api.Throw) api.Mem { return m }
	return map[string]func(m api.Mem) api.Mem{
		"Store":            func(m api.Mem) api.Mem { return first(Store(m, 8, -1)) },
		"Store, Align":     func(m api.Mem) api.Mem { return first(Store(m, 4, -1)) },
		"Store, Address":   func(m api.Mem) api.Mem { return first(Store(m, 16, -1)) },
		"StoreByte":        func(m api.Mem) api.Mem { return first(StoreByte(m, 0, 201)) },
		"StoreByte, none":  func(m api.Mem) api.Mem { return first(StoreByte(m, -1, 201)) },
		"Write":            func(m api.Mem) api.Mem { return first(Write(m, 2, []byte{202, 203})) },
		"Write of nothing": func(m api.Mem) api.Mem { return first(Write(m, 99, nil)) },
		"Fill":             func(m api.Mem) api.Mem { return first(Fill(m, 0, 16, 204)) },
		"Fill, Address":    func(m api.Mem) api.Mem { return first(Fill(m, 1, 16, 204)) },
		"Move":             func(m api.Mem) api.Mem { return first(Move(m, 0, 4, 9)) },
		"Move down":        func(m api.Mem) api.Mem { return first(Move(m, 4, 0, 9)) },
		"Back to 0":        func(m api.Mem) api.Mem { return first(Back(m, 0)) },
		"Back to 1":        func(m api.Mem) api.Mem { return first(Back(m, 1)) },
		"Back to now":      func(m api.Mem) api.Mem { return first(Back(m, Mark(m))) },
		"Back, no mark":    func(m api.Mem) api.Mem { return first(Back(m, -1)) },
		"Free":             Free,
	}
}

// roomy is a memory with patches, and with room behind all its rows, into which a call could write unseen.
func roomy() api.Mem {
	m := api.Mem{B: make([]byte, 16, 64), Old: make([]api.Patch, 3, 16)}
	copy(m.B, numbered(16).B)
	for i := range m.Old {
		m.Old[i] = api.Patch{At: i, Old: append(make([]byte, 0, 32), byte(50+i), byte(60+i))}
	}
	return m
}

// whole is a memory with the room behind its rows.
func whole(m api.Mem) api.Mem {
	return api.Mem{B: m.B[:cap(m.B)], Old: m.Old[:cap(m.Old)]}
}

func TestNoCallWritesIntoItsMemory(t *testing.T) {
	all := calls()
	all["Fetch"] = func(m api.Mem) api.Mem { Fetch(m, 8); Fetch(m, 9); return m }
	all["FetchByte"] = func(m api.Mem) api.Mem { FetchByte(m, 8); FetchByte(m, 99); return m }
	all["Text"] = func(m api.Mem) api.Mem { Text(m, 0, 16); Text(m, 0, 17); return m }
	all["Mark"] = func(m api.Mem) api.Mem { Mark(m); return m }
	all["Right, Same"] = func(m api.Mem) api.Mem { Right(m); Same(m, m); return m }
	for name, call := range all {
		m := roomy()
		was := deep(whole(m))
		call(m)
		if !alike(whole(m), was) {
			t.Error(name, "wrote into its memory")
		}
	}
}

func TestALaterCallIsNotSeenInAnotherMemory(t *testing.T) {
	all := calls()
	for firstName, first := range all {
		for secondName, second := range all {
			m := roomy()
			was := deep(m)
			a := first(m)
			wasA := deep(a)
			b := second(m)
			wasB := deep(b)
			c := second(a)
			wasC := deep(c)
			first(b)
			second(c)
			if !alike(m, was) || !alike(a, wasA) || !alike(b, wasB) || !alike(c, wasC) {
				t.Error(firstName, "and then", secondName)
			}
		}
	}
}

// Two ways on from one memory, each behind the same mark, don't know of each other's patches.
func TestTwoWaysOnFromOneMemory(t *testing.T) {
	m := numbered(8)
	for i := range 40 {
		m = done(t)(StoreByte(m, i%8, i))
		a := done(t)(StoreByte(m, 0, 111))
		b := done(t)(StoreByte(m, 1, 222))
		if p := a.Old[len(a.Old)-1]; p.At != 0 || a.B[0] != 111 || a.B[1] == 222 {
			t.Error(i, p, a.B)
		}
		if p := b.Old[len(b.Old)-1]; p.At != 1 || b.B[1] != 222 || b.B[0] == 111 {
			t.Error(i, p, b.B)
		}
	}
}

func TestRowsOfBytesAreNeitherChangedNorKept(t *testing.T) {
	row := append(make([]byte, 0, 16), 1, 2, 3)
	m := numbered(8)
	o := done(t)(Write(m, 2, row))
	if was := []byte{1, 2, 3}; !bytes.Equal(row, was) || !bytes.Equal(row[:16], append(was, make([]byte, 13)...)) {
		t.Error("Write wrote into its row:", row[:16])
	}
	row[0] = 77
	if o.B[2] != 1 {
		t.Error("Write kept its row")
	}
	text, _ := Text(o, 2, 3)
	text[0] = 88
	if o.B[2] != 1 {
		t.Error("Text hands out the memory's own bytes")
	}
	if more := append(text, 99); o.B[5] == more[3] {
		t.Error("Text hands out room that is the memory's")
	}
}

// A row that is a piece of the memory itself is written as it stood.
func TestWriteOfTheMemorysOwnBytes(t *testing.T) {
	m := numbered(16)
	want := written(m, 4, append([]byte{}, m.B[:10]...))
	got, code := Write(m, 4, m.B[:10])
	expect(t, "Write", nil, got, code, want, api.OK)
}
