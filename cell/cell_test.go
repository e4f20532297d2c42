package cell

import (
	"bytes"
	"math"
	"math/big"
	"testing"

	"detent/api"
)

const (
	least = math.MinInt
	most  = math.MaxInt
)

// edges are cells near all places where a sign, a byte or the range turns.
func edges() []int {
	return []int{
		least, least + 1, least + 2, least / 2, -1 << 32, -258, -256, -255, -7, -3, -2, -1,
		0, 1, 2, 3, 7, 255, 256, 258, 1<<32 - 1, 1 << 32, most / 2, most/2 + 1, most - 1, most,
		0x0123456789abcdef, -0x0123456789abcdef,
	}
}

// The reference reckons with whole numbers of any size.

func withSign(n int) *big.Int { return big.NewInt(int64(n)) }

func noSign(n int) *big.Int { return new(big.Int).SetUint64(uint64(n)) }

func pair(lo, hi *big.Int) *big.Int {
	return new(big.Int).Add(lo, new(big.Int).Lsh(hi, 64))
}

func signedPair(lo, hi int) *big.Int { return pair(noSign(lo), withSign(hi)) }

func unsignedPair(lo, hi int) *big.Int { return pair(noSign(lo), noSign(hi)) }

func roundedDown(a, b *big.Int) (*big.Int, *big.Int) {
	q, r := new(big.Int).QuoRem(a, b, new(big.Int))
	if r.Sign() != 0 && r.Sign() != b.Sign() {
		q.Sub(q, big.NewInt(1))
		r.Add(r, b)
	}
	return q, r
}

func roundedToZero(a, b *big.Int) (*big.Int, *big.Int) {
	return new(big.Int).QuoRem(a, b, new(big.Int))
}

// P1.1

func TestPutTellsTheLowestByteFirst(t *testing.T) {
	for _, x := range []struct {
		n    int
		want []byte
	}{
		{0, []byte{0, 0, 0, 0, 0, 0, 0, 0}},
		{1, []byte{1, 0, 0, 0, 0, 0, 0, 0}},
		{258, []byte{2, 1, 0, 0, 0, 0, 0, 0}},
		{-1, []byte{255, 255, 255, 255, 255, 255, 255, 255}},
		{-2, []byte{254, 255, 255, 255, 255, 255, 255, 255}},
		{least, []byte{0, 0, 0, 0, 0, 0, 0, 0x80}},
		{most, []byte{255, 255, 255, 255, 255, 255, 255, 0x7f}},
		{0x0123456789abcdef, []byte{0xef, 0xcd, 0xab, 0x89, 0x67, 0x45, 0x23, 0x01}},
	} {
		if got := Put(x.n); !bytes.Equal(got, x.want) {
			t.Errorf("Put(%d) = %v, want %v", x.n, got, x.want)
		}
		if got, code := Get(x.want); got != x.n || code != api.OK {
			t.Errorf("Get(%v) = %d, %d, want %d", x.want, got, code, x.n)
		}
	}
}

func TestPutHandsOutMemoryOfItsOwn(t *testing.T) {
	first, second := Put(258), Put(258)
	first[0] = 99
	if second[0] != 2 || Put(258)[0] != 2 {
		t.Error("what one Put answered is seen through another one")
	}
}

func TestGetLeavesItsListAlone(t *testing.T) {
	b := []byte{1, 2, 3, 4, 5, 6, 7, 8}
	n, code := Get(b)
	if n != 0x0807060504030201 || code != api.OK {
		t.Error(n, code)
	}
	if !bytes.Equal(b, []byte{1, 2, 3, 4, 5, 6, 7, 8}) {
		t.Error("Get wrote into its list:", b)
	}
}

func TestGetRefusesAnyOtherLength(t *testing.T) {
	if n, code := Get(nil); n != 0 || code != api.BadNumber {
		t.Error("nil:", n, code)
	}
	for length := range 40 {
		b := bytes.Repeat([]byte{7}, length)
		n, code := Get(b)
		if length == api.Cell {
			if n != 0x0707070707070707 || code != api.OK {
				t.Error(length, n, code)
			}
		} else if n != 0 || code != api.BadNumber {
			t.Error(length, n, code)
		}
	}
}

func TestGetLooksAtTheLengthNotTheRoom(t *testing.T) {
	roomy := make([]byte, 9)
	if n, code := Get(roomy[:7]); n != 0 || code != api.BadNumber {
		t.Error(n, code)
	}
	if n, code := Get(roomy[:8]); n != 0 || code != api.OK {
		t.Error(n, code)
	}
}

func TestULessReadsWithoutASign(t *testing.T) {
	for _, x := range []struct {
		a, b int
		want bool
	}{
		{1, 2, true}, {2, 1, false}, {2, 2, false}, {-1, -1, false},
		{0, -1, true}, {-1, 0, false}, {most, least, true}, {least, most, false},
		{-2, -1, true}, {-1, -2, false}, {least, -1, true},
	} {
		if got := ULess(x.a, x.b); got != x.want {
			t.Errorf("ULess(%d, %d) = %v", x.a, x.b, got)
		}
	}
	for _, a := range edges() {
		for _, b := range edges() {
			if got := ULess(a, b); got != (noSign(a).Cmp(noSign(b)) < 0) {
				t.Errorf("ULess(%d, %d) = %v", a, b, got)
			}
		}
	}
}

// P1.2

func TestDivRoundsDown(t *testing.T) {
	for _, x := range [][4]int{
		{7, 2, 3, 1}, {-7, 2, -4, 1}, {7, -2, -4, -1}, {-7, -2, 3, -1},
		{6, 2, 3, 0}, {-6, 2, -3, 0}, {6, -2, -3, 0}, {-6, -2, 3, 0},
		{0, 5, 0, 0}, {0, -5, 0, 0}, {1, 5, 0, 1}, {-1, 5, -1, 4}, {1, -5, -1, -4},
		{least, -1, least, 0}, {least, 1, least, 0}, {least, least, 1, 0}, {most, least, -1, -1}, {least, most, -2, most - 1},
	} {
		if q, r, code := Div(x[0], x[1]); q != x[2] || r != x[3] || code != api.OK {
			t.Errorf("Div(%d, %d) = %d, %d, %d", x[0], x[1], q, r, code)
		}
	}
	for _, a := range edges() {
		for _, b := range edges() {
			if b == 0 || a == least && b == -1 {
				continue
			}
			q, r, code := Div(a, b)
			wantQ, wantR := roundedDown(withSign(a), withSign(b))
			if withSign(q).Cmp(wantQ) != 0 || withSign(r).Cmp(wantR) != 0 || code != api.OK {
				t.Errorf("Div(%d, %d) = %d, %d, %d, want %v, %v", a, b, q, r, code, wantQ, wantR)
			}
		}
	}
}

func TestDivByZero(t *testing.T) {
	for _, a := range edges() {
		if q, r, code := Div(a, 0); q != 0 || r != 0 || code != api.ByZero {
			t.Errorf("Div(%d, 0) = %d, %d, %d", a, q, r, code)
		}
	}
}

// P1.3

func TestProductsAsPairs(t *testing.T) {
	for _, x := range [][6]int{
		{2, 3, 6, 0, 6, 0},
		{-1, -1, 1, -2, 1, 0},
		{-1, 2, -2, 1, -2, -1},
		{2, -1, -2, 1, -2, -1},
		{-3, 5, -15, 4, -15, -1},
		{least, 2, 0, 1, 0, -1},
		{least, least, 0, 1 << 62, 0, 1 << 62},
		{least, -1, least, most, least, 0},
		{0, -1, 0, 0, 0, 0},
	} {
		if lo, hi := UMul(x[0], x[1]); lo != x[2] || hi != x[3] {
			t.Errorf("UMul(%d, %d) = %d, %d", x[0], x[1], lo, hi)
		}
		if lo, hi := Mul(x[0], x[1]); lo != x[4] || hi != x[5] {
			t.Errorf("Mul(%d, %d) = %d, %d", x[0], x[1], lo, hi)
		}
	}
	for _, a := range edges() {
		for _, b := range edges() {
			want := new(big.Int).Mul(noSign(a), noSign(b))
			if lo, hi := UMul(a, b); unsignedPair(lo, hi).Cmp(want) != 0 {
				t.Errorf("UMul(%d, %d) = %d, %d, want %v", a, b, lo, hi, want)
			}
			want = new(big.Int).Mul(withSign(a), withSign(b))
			if lo, hi := Mul(a, b); signedPair(lo, hi).Cmp(want) != 0 {
				t.Errorf("Mul(%d, %d) = %d, %d, want %v", a, b, lo, hi, want)
			}
		}
	}
}

// P1.4

func TestUDivNearItsRange(t *testing.T) {
	for _, x := range []struct {
		lo, hi, d, q, r int
		code            api.Throw
	}{
		{7, 0, 2, 3, 1, api.OK},
		{-1, 0, 1, -1, 0, api.OK},
		{0, 1, 2, least, 0, api.OK},
		{-1, 0, -1, 1, 0, api.OK},
		{-1, 1, 2, -1, 1, api.OK},    // 2^65 - 1 by 2: 2^64 - 1, just inside
		{0, 2, 2, 0, 0, api.Range},   // 2^65 by 2: 2^64, just outside
		{-1, -2, -1, -1, -2, api.OK}, // the greatest that the greatest divisor takes
		{0, -1, -1, 0, 0, api.Range}, // and one more
		{5, -1, -1, 0, 0, api.Range},
		{0, 1, 1, 0, 0, api.Range},
		{0, least, -1, least, least, 0}, // 2^127 by 2^64 - 1
	} {
		if q, r, code := UDiv(x.lo, x.hi, x.d); q != x.q || r != x.r || code != x.code {
			t.Errorf("UDiv(%d, %d, %d) = %d, %d, %d", x.lo, x.hi, x.d, q, r, code)
		}
	}
}

func TestSDivAndFDivBySigns(t *testing.T) {
	for _, x := range [][7]int{
		{7, 0, 2, 3, 1, 3, 1},
		{-7, -1, 2, -3, -1, -4, 1},
		{7, 0, -2, -3, 1, -4, -1},
		{-7, -1, -2, 3, -1, 3, -1},
		{6, 0, -2, -3, 0, -3, 0},
		{-6, -1, 2, -3, 0, -3, 0},
		{0, 0, -5, 0, 0, 0, 0},
		{1, 0, -5, 0, 1, -1, -4},
		{-1, -1, 5, 0, -1, -1, 4},
		{0, 1, 4, 1 << 62, 0, 1 << 62, 0},
		{0, -1, 4, -1 << 62, 0, -1 << 62, 0},
	} {
		if q, r, code := SDiv(x[0], x[1], x[2]); q != x[3] || r != x[4] || code != api.OK {
			t.Errorf("SDiv(%d, %d, %d) = %d, %d, %d", x[0], x[1], x[2], q, r, code)
		}
		if q, r, code := FDiv(x[0], x[1], x[2]); q != x[5] || r != x[6] || code != api.OK {
			t.Errorf("FDiv(%d, %d, %d) = %d, %d, %d", x[0], x[1], x[2], q, r, code)
		}
	}
}

// answer is what a quotient's call answers.
type answer struct {
	q, r int
	code api.Throw
}

func TestSDivAndFDivNearTheirRange(t *testing.T) {
	none := answer{0, 0, api.Range}
	for _, x := range []struct {
		lo, hi, d int
		s, f      answer
	}{
		// By 1 and by -1: each bound, and one beyond it.
		{most, 0, 1, answer{most, 0, 0}, answer{most, 0, 0}},
		{least, 0, 1, none, none},
		{least, -1, 1, answer{least, 0, 0}, answer{least, 0, 0}},
		{most, -1, 1, none, none},
		{least, 0, -1, answer{least, 0, 0}, answer{least, 0, 0}},
		{least + 1, 0, -1, none, none},
		{least, -1, -1, none, none},
		{least + 1, -1, -1, answer{most, 0, 0}, answer{most, 0, 0}},
		// By 2: the rest keeps a quotient just inside of the upper bound.
		{-1, 0, 2, answer{most, 1, 0}, answer{most, 1, 0}},
		{0, 1, 2, none, none},
		{1, -1, -2, answer{most, -1, 0}, answer{most, -1, 0}},
		{0, -1, -2, none, none},
		// At the lower bound one way of rounding is inside, the other one isn't.
		{0, -1, 2, answer{least, 0, 0}, answer{least, 0, 0}},
		{-1, -2, 2, answer{least, -1, 0}, none},
		{-2, -2, 2, none, none},
		{0, 1, -2, answer{least, 0, 0}, answer{least, 0, 0}},
		{1, 1, -2, answer{least, 1, 0}, none},
		{2, 1, -2, none, none},
		// A quotient whose size has no room in a cell, nor in one without a sign.
		{-1, -2, 1, none, none},
		{0, 1, 1, none, none},
		{0, least, 1, none, none},
		{0, least, least, none, none},
		{-1, most, most, none, none},
		// The greatest sizes of dividend and divisor that still have a quotient.
		{least, 1 << 62, least, none, none},
		{0, 1 << 62, least, answer{least, 0, 0}, answer{least, 0, 0}},
		{most, 1 << 62, least, answer{least, most, 0}, none},
		{0, -1 << 62, most, none, none},
	} {
		if q, r, code := SDiv(x.lo, x.hi, x.d); (answer{q, r, code}) != x.s {
			t.Errorf("SDiv(%d, %d, %d) = %d, %d, %d, want %v", x.lo, x.hi, x.d, q, r, code, x.s)
		}
		if q, r, code := FDiv(x.lo, x.hi, x.d); (answer{q, r, code}) != x.f {
			t.Errorf("FDiv(%d, %d, %d) = %d, %d, %d, want %v", x.lo, x.hi, x.d, q, r, code, x.f)
		}
	}
}

// ByZero is named first: it holds where the quotient would have no room, too.
func TestQuotientsByZero(t *testing.T) {
	zero := answer{0, 0, api.ByZero}
	for _, lo := range edges() {
		for _, hi := range edges() {
			for _, call := range []func(lo, hi, d int) (int, int, api.Throw){UDiv, SDiv, FDiv} {
				if q, r, code := call(lo, hi, 0); (answer{q, r, code}) != zero {
					t.Errorf("of %d, %d by 0: %d, %d, %d", lo, hi, q, r, code)
				}
			}
		}
	}
}

// wanted is what the promise says of a quotient and a rest, with the least and the greatest cell as they are read.
func wanted(q, r, low, high *big.Int) answer {
	if q.Cmp(low) < 0 || q.Cmp(high) > 0 {
		return answer{0, 0, api.Range}
	}
	return answer{low64(q), low64(r), api.OK}
}

func low64(n *big.Int) int {
	all := new(big.Int).Lsh(big.NewInt(1), 64)
	return int(new(big.Int).Mod(n, all).Uint64())
}

func TestQuotientsOfAllEdges(t *testing.T) {
	for _, lo := range edges() {
		for _, hi := range edges() {
			for _, d := range edges() {
				if d != 0 {
					checkQuotients(t, lo, hi, d)
				}
			}
		}
	}
}

// Pairs that are products, or near one: the quotient is near the other factor, and so, often, near its range.
func TestQuotientsNearProducts(t *testing.T) {
	for _, a := range edges() {
		for _, d := range edges() {
			if d == 0 {
				continue
			}
			for _, off := range []int{-d, -d + 1, -2, -1, 0, 1, 2, d - 1, d} {
				sum := new(big.Int).Mul(withSign(a), withSign(d))
				sum.Add(sum, withSign(off))
				checkQuotients(t, low64(sum), low64(new(big.Int).Rsh(sum, 64)), d)
				sum.Mul(noSign(a), noSign(d))
				sum.Add(sum, withSign(off))
				checkQuotients(t, low64(sum), low64(new(big.Int).Rsh(sum, 64)), d)
			}
		}
	}
}

func checkQuotients(t *testing.T, lo, hi, d int) {
	t.Helper()
	q, r := roundedToZero(unsignedPair(lo, hi), noSign(d))
	if want := wanted(q, r, new(big.Int), noSign(-1)); askU(lo, hi, d) != want {
		t.Errorf("UDiv(%d, %d, %d) = %v, want %v", lo, hi, d, askU(lo, hi, d), want)
	}
	q, r = roundedToZero(signedPair(lo, hi), withSign(d))
	if want := wanted(q, r, withSign(least), withSign(most)); askS(lo, hi, d) != want {
		t.Errorf("SDiv(%d, %d, %d) = %v, want %v", lo, hi, d, askS(lo, hi, d), want)
	}
	q, r = roundedDown(signedPair(lo, hi), withSign(d))
	if want := wanted(q, r, withSign(least), withSign(most)); askF(lo, hi, d) != want {
		t.Errorf("FDiv(%d, %d, %d) = %v, want %v", lo, hi, d, askF(lo, hi, d), want)
	}
}

func askU(lo, hi, d int) answer { q, r, code := UDiv(lo, hi, d); return answer{q, r, code} }
func askS(lo, hi, d int) answer { q, r, code := SDiv(lo, hi, d); return answer{q, r, code} }
func askF(lo, hi, d int) answer { q, r, code := FDiv(lo, hi, d); return answer{q, r, code} }

// P1.5

func TestWhatIsPutIsGot(t *testing.T) {
	for _, n := range edges() {
		b := Put(n)
		if got, code := Get(b); len(b) != api.Cell || got != n || code != api.OK {
			t.Errorf("Get(Put(%d)) = %d, %d", n, got, code)
		}
	}
	for shift := range 64 {
		n := 1 << shift
		if got, code := Get(Put(n)); got != n || code != api.OK {
			t.Errorf("Get(Put(%d)) = %d, %d", n, got, code)
		}
	}
}

func TestAProductDividedByAFactorIsTheOther(t *testing.T) {
	for _, a := range edges() {
		for _, b := range edges() {
			if b == 0 {
				continue
			}
			want := answer{a, 0, api.OK}
			if lo, hi := UMul(a, b); askU(lo, hi, b) != want {
				t.Errorf("UDiv of UMul(%d, %d) = %v", a, b, askU(lo, hi, b))
			}
			if lo, hi := Mul(a, b); askS(lo, hi, b) != want || askF(lo, hi, b) != want {
				t.Errorf("SDiv, FDiv of Mul(%d, %d) = %v, %v", a, b, askS(lo, hi, b), askF(lo, hi, b))
			}
		}
	}
}

// The dividend is put together again by whole numbers of any size, but for Div, whose one round case comes out by going round, too.
func TestAQuotientTimesTheDivisorAndTheRestIsTheDividend(t *testing.T) {
	for _, a := range edges() {
		for _, d := range edges() {
			if q, r, code := Div(a, d); code == api.OK && q*d+r != a {
				t.Errorf("Div(%d, %d) = %d, %d", a, d, q, r)
			}
			for _, hi := range edges() {
				checkDividend(t, a, hi, d)
			}
		}
	}
}

func checkDividend(t *testing.T, lo, hi, d int) {
	t.Helper()
	if x := askU(lo, hi, d); x.code == api.OK {
		sum := new(big.Int).Mul(noSign(x.q), noSign(d))
		if sum.Add(sum, noSign(x.r)).Cmp(unsignedPair(lo, hi)) != 0 {
			t.Errorf("UDiv(%d, %d, %d) = %v", lo, hi, d, x)
		}
	}
	for _, x := range []answer{askS(lo, hi, d), askF(lo, hi, d)} {
		sum := new(big.Int).Mul(withSign(x.q), withSign(d))
		if x.code == api.OK && sum.Add(sum, withSign(x.r)).Cmp(signedPair(lo, hi)) != 0 {
			t.Errorf("SDiv or FDiv (%d, %d, %d) = %v", lo, hi, d, x)
		}
	}
}
