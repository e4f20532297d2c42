package prim

import (
	"fmt"
	"math/big"
	"math/rand"
	"slices"
	"testing"

	"detent/alu"
	"detent/api"
	"detent/cell"
	"detent/stk"
)

func shuffleCases() []given {
	return []given{
		{name: "DUP", in: s(7), out: s(7, 7)}, {name: "DUP", in: s(0), out: s(0, 0)},
		{name: "DROP", in: s(7)},
		{name: "SWAP", in: s(7, 8), out: s(8, 7)},
		{name: "OVER", in: s(7, 8), out: s(7, 8, 7)},
		{name: "ROT", in: s(7, 8, 9), out: s(8, 9, 7)},
		{name: "-ROT", in: s(7, 8, 9), out: s(9, 7, 8)},
		{name: "NIP", in: s(7, 8), out: s(8)},
		{name: "TUCK", in: s(7, 8), out: s(8, 7, 8)},
		{name: "?DUP", in: s(7), out: s(7, 7)}, {name: "?DUP", in: s(-1), out: s(-1, -1)}, {name: "?DUP", in: s(least), out: s(least, least)}, {name: "?DUP", in: s(0), out: s(0)},
		{name: "2DUP", in: s(7, 8), out: s(7, 8, 7, 8)},
		{name: "2DROP", in: s(7, 8)},
		{name: "2SWAP", in: s(6, 7, 8, 9), out: s(8, 9, 6, 7)},
		{name: "2OVER", in: s(6, 7, 8, 9), out: s(6, 7, 8, 9, 6, 7)},
		{name: "PICK", in: s(7, 0), out: s(7, 7)}, {name: "PICK", in: s(7, 8, 1), out: s(7, 8, 7)}, {name: "PICK", in: s(7, 8, 9, 2), out: s(7, 8, 9, 7)},
		{name: "ROLL", in: s(7, 0), out: s(7)}, {name: "ROLL", in: s(7, 8, 1), out: s(8, 7)}, {name: "ROLL", in: s(6, 7, 8, 9, 3), out: s(7, 8, 9, 6)},
		{name: "DEPTH", out: s(0), bare: true},
	}
}

func TestShuffles(t *testing.T) { checkAll(t, shuffleCases()) }

// Numbers below 0, and those for which there are too few cells.
func TestPickAndRollOfNoSuchCell(t *testing.T) {
	for _, name := range []string{"PICK", "ROLL"} {
		for _, d := range [][]int{
			nil, {0}, {1}, {-1}, {7, 1}, {7, 2}, {7, -1}, {7, 8, 2}, {7, 8, 3}, {7, 8, -1}, {7, 8, -2}, {7, 8, 9, least}, {7, 8, 9, most}, {7, 8, 9, 1 << 32}, {7, 8, 9, -1 << 63},
		} {
			for _, room := range []int{max(len(d), 1), 20} {
				v := with(busy(t), d...)
				v.Conf.Data = room
				check(t, fmt.Sprint(name, " of ", d), v, name, v, -4)
			}
		}
	}
}

func TestDepthOfEachStack(t *testing.T) {
	for many := range 257 {
		v := with(busy(t), make([]int, many)...)
		v.Conf.Data = 256
		if many == 256 {
			check(t, "DEPTH of a full stack", v, "DEPTH", v, -3)
			continue
		}
		want := with(v, append(make([]int, many), many)...)
		check(t, fmt.Sprint("DEPTH of ", many), v, "DEPTH", want, api.OK)
		if many > 0 {
			v.Conf.Data = many
			check(t, fmt.Sprint("DEPTH of a full stack of ", many), v, "DEPTH", v, -3)
		}
	}
}

// The greatest stack, full: what leaves as much as it takes has room, what leaves more has none.
func TestTheGreatestStackIsFull(t *testing.T) {
	for name, many := range takes() {
		v := busy(t)
		v.Conf.Data = 256
		v.D = make([]int, 256)
		if many[1] > many[0] && name != "COUNT" && name != "2@" {
			check(t, name+" of a full stack", v, name, v, -3)
		}
		v.D = make([]int, 256-max(many[1]-many[0], 0))
		if got, code := do(t, v, name); code == api.Over || code == api.Under {
			t.Errorf("%s with room for just that: %d, %v", name, code, got.D)
		}
	}
}

func twoCases() []given {
	return []given{
		{name: "+", in: s(7, -9), out: s(-2)}, {name: "+", in: s(most, 1), out: s(least)}, {name: "+", in: s(least, least), out: s(0)},
		{name: "-", in: s(7, 9), out: s(-2)}, {name: "-", in: s(least, 1), out: s(most)}, {name: "-", in: s(0, least), out: s(least)},
		{name: "*", in: s(7, -9), out: s(-63)}, {name: "*", in: s(1<<62, 4), out: s(0)}, {name: "*", in: s(least, -1), out: s(least)}, {name: "*", in: s(most, 2), out: s(-2)},
		{name: "/", in: s(-7, 2), out: s(-4)}, {name: "/", in: s(7, -2), out: s(-4)}, {name: "/", in: s(7, 2), out: s(3)}, {name: "/", in: s(-7, -2), out: s(3)},
		{name: "/", in: s(least, -1), out: s(least)}, {name: "/", in: s(7, 0), code: -10}, {name: "/", in: s(0, 0), code: -10}, {name: "/", in: s(least, 0), code: -10},
		{name: "MOD", in: s(-7, 2), out: s(1)}, {name: "MOD", in: s(7, -2), out: s(-1)}, {name: "MOD", in: s(7, 2), out: s(1)}, {name: "MOD", in: s(-7, -2), out: s(-1)},
		{name: "MOD", in: s(least, -1), out: s(0)}, {name: "MOD", in: s(7, 0), code: -10}, {name: "MOD", in: s(0, 0), code: -10},
		{name: "AND", in: s(12, 10), out: s(8)}, {name: "AND", in: s(-1, least), out: s(least)},
		{name: "OR", in: s(12, 10), out: s(14)}, {name: "OR", in: s(most, least), out: s(-1)},
		{name: "XOR", in: s(12, 10), out: s(6)}, {name: "XOR", in: s(-1, most), out: s(least)},
		{name: "LSHIFT", in: s(3, 2), out: s(12)}, {name: "LSHIFT", in: s(1, 63), out: s(least)}, {name: "LSHIFT", in: s(1, 64), out: s(0)}, {name: "LSHIFT", in: s(1, -1), out: s(0)}, {name: "LSHIFT", in: s(-1, 0), out: s(-1)},
		{name: "RSHIFT", in: s(12, 2), out: s(3)}, {name: "RSHIFT", in: s(-1, 63), out: s(1)}, {name: "RSHIFT", in: s(-1, 64), out: s(0)}, {name: "RSHIFT", in: s(-1, -1), out: s(0)}, {name: "RSHIFT", in: s(-1, 0), out: s(-1)},
		{name: "MIN", in: s(3, -4), out: s(-4)}, {name: "MIN", in: s(least, most), out: s(least)},
		{name: "MAX", in: s(3, -4), out: s(3)}, {name: "MAX", in: s(least, most), out: s(most)},
		{name: "=", in: s(3, 3), out: s(-1)}, {name: "=", in: s(3, 4), out: s(0)},
		{name: "<>", in: s(3, 3), out: s(0)}, {name: "<>", in: s(3, 4), out: s(-1)},
		{name: "<", in: s(-3, 4), out: s(-1)}, {name: "<", in: s(4, 4), out: s(0)}, {name: "<", in: s(4, -3), out: s(0)}, {name: "<", in: s(least, most), out: s(-1)},
		{name: ">", in: s(-3, 4), out: s(0)}, {name: ">", in: s(4, 4), out: s(0)}, {name: ">", in: s(4, -3), out: s(-1)}, {name: ">", in: s(least, most), out: s(0)},
		{name: "<=", in: s(-3, 4), out: s(-1)}, {name: "<=", in: s(4, 4), out: s(-1)}, {name: "<=", in: s(4, -3), out: s(0)},
		{name: ">=", in: s(-3, 4), out: s(0)}, {name: ">=", in: s(4, 4), out: s(-1)}, {name: ">=", in: s(4, -3), out: s(-1)},
		{name: "U<", in: s(3, 4), out: s(-1)}, {name: "U<", in: s(4, 4), out: s(0)}, {name: "U<", in: s(-1, 4), out: s(0)}, {name: "U<", in: s(most, least), out: s(-1)},
		{name: "U>", in: s(3, 4), out: s(0)}, {name: "U>", in: s(4, 4), out: s(0)}, {name: "U>", in: s(-1, 4), out: s(-1)}, {name: "U>", in: s(most, least), out: s(0)},
	}
}

func TestTwo(t *testing.T) { checkAll(t, twoCases()) }

func oneCases() []given {
	return []given{
		{name: "NEGATE", in: s(7), out: s(-7)}, {name: "NEGATE", in: s(least), out: s(least)},
		{name: "ABS", in: s(-7), out: s(7)}, {name: "ABS", in: s(7), out: s(7)}, {name: "ABS", in: s(least), out: s(least)},
		{name: "INVERT", in: s(7), out: s(-8)}, {name: "INVERT", in: s(least), out: s(most)},
		{name: "1+", in: s(7), out: s(8)}, {name: "1+", in: s(most), out: s(least)},
		{name: "1-", in: s(7), out: s(6)}, {name: "1-", in: s(least), out: s(most)},
		{name: "2*", in: s(7), out: s(14)}, {name: "2*", in: s(most), out: s(-2)},
		{name: "2/", in: s(7), out: s(3)}, {name: "2/", in: s(-3), out: s(-2)}, {name: "2/", in: s(-1), out: s(-1)}, {name: "2/", in: s(least), out: s(least / 2)},
		{name: "0=", in: s(0), out: s(-1)}, {name: "0=", in: s(7), out: s(0)}, {name: "0=", in: s(-7), out: s(0)},
		{name: "0<", in: s(0), out: s(0)}, {name: "0<", in: s(7), out: s(0)}, {name: "0<", in: s(-7), out: s(-1)},
		{name: "0<>", in: s(0), out: s(0)}, {name: "0<>", in: s(7), out: s(-1)}, {name: "0<>", in: s(-7), out: s(-1)},
		{name: "0>", in: s(0), out: s(0)}, {name: "0>", in: s(7), out: s(-1)}, {name: "0>", in: s(-7), out: s(0)},
		{name: "CELLS", in: s(7), out: s(56)}, {name: "CELLS", in: s(1 << 61), out: s(0)},
		{name: "CELL+", in: s(7), out: s(15)}, {name: "CELL+", in: s(most), out: s(least + 7)},
		{name: "ALIGNED", in: s(9), out: s(16)}, {name: "ALIGNED", in: s(16), out: s(16)}, {name: "ALIGNED", in: s(-1), out: s(0)}, {name: "ALIGNED", in: s(most), out: s(least)},
	}
}

func TestOne(t *testing.T) { checkAll(t, oneCases()) }

func wideCases() []given {
	return []given{
		{name: "/MOD", in: s(7, -2), out: s(-1, -4)}, {name: "/MOD", in: s(-7, 2), out: s(1, -4)}, {name: "/MOD", in: s(7, 2), out: s(1, 3)}, {name: "/MOD", in: s(2, 7), out: s(2, 0)},
		{name: "/MOD", in: s(least, -1), out: s(0, least)}, {name: "/MOD", in: s(7, 0), code: -10},
		{name: "*/", in: s(7, 5, 4), out: s(8)}, {name: "*/", in: s(-7, 5, 4), out: s(-9)}, {name: "*/", in: s(7, 5, -4), out: s(-9)}, {name: "*/", in: s(most, most, most), out: s(most)},
		{name: "*/", in: s(least, 1, 1), out: s(least)}, {name: "*/", in: s(least, -1, 1), code: -11}, {name: "*/", in: s(most, 2, 1), code: -11}, {name: "*/", in: s(7, 5, 0), code: -10}, {name: "*/", in: s(least, least, 0), code: -10},
		{name: "*/MOD", in: s(7, 5, 4), out: s(3, 8)}, {name: "*/MOD", in: s(-7, 5, 4), out: s(1, -9)}, {name: "*/MOD", in: s(7, 5, -4), out: s(-1, -9)}, {name: "*/MOD", in: s(most, 3, most), out: s(0, 3)},
		{name: "*/MOD", in: s(least, least, least), out: s(0, least)}, {name: "*/MOD", in: s(least, least, 1), code: -11}, {name: "*/MOD", in: s(most, 2, -1), code: -11}, {name: "*/MOD", in: s(7, 5, 0), code: -10},
		{name: "UM*", in: s(7, 5), out: s(35, 0)}, {name: "UM*", in: s(-1, -1), out: s(1, -2)}, {name: "UM*", in: s(-1, 2), out: s(-2, 1)}, {name: "UM*", in: s(least, 2), out: s(0, 1)},
		{name: "M*", in: s(7, 5), out: s(35, 0)}, {name: "M*", in: s(-1, -1), out: s(1, 0)}, {name: "M*", in: s(-1, 2), out: s(-2, -1)}, {name: "M*", in: s(least, 2), out: s(0, -1)}, {name: "M*", in: s(least, least), out: s(0, 1<<62)},
		{name: "UM/MOD", in: s(7, 0, 2), out: s(1, 3)}, {name: "UM/MOD", in: s(5, 1, 16), out: s(5, 1<<60)}, {name: "UM/MOD", in: s(-1, -2, -1), out: s(-2, -1)},
		{name: "UM/MOD", in: s(0, 2, 2), code: -11}, {name: "UM/MOD", in: s(-1, 1, 2), out: s(1, -1)}, {name: "UM/MOD", in: s(7, 0, 0), code: -10}, {name: "UM/MOD", in: s(-1, -1, 0), code: -10}, {name: "UM/MOD", in: s(-1, -1, -1), code: -11},
		{name: "SM/REM", in: s(-7, -1, 2), out: s(-1, -3)}, {name: "SM/REM", in: s(7, 0, -2), out: s(1, -3)}, {name: "SM/REM", in: s(7, 0, 2), out: s(1, 3)}, {name: "SM/REM", in: s(0, -1, 2), out: s(0, least)},
		{name: "SM/REM", in: s(0, 1, 2), code: -11}, {name: "SM/REM", in: s(least, -1, -1), code: -11}, {name: "SM/REM", in: s(7, 0, 0), code: -10}, {name: "SM/REM", in: s(0, most, 0), code: -10},
		{name: "FM/MOD", in: s(-7, -1, 2), out: s(1, -4)}, {name: "FM/MOD", in: s(7, 0, -2), out: s(-1, -4)}, {name: "FM/MOD", in: s(7, 0, 2), out: s(1, 3)}, {name: "FM/MOD", in: s(0, -1, 2), out: s(0, least)},
		{name: "FM/MOD", in: s(0, 1, 2), code: -11}, {name: "FM/MOD", in: s(least, -1, -1), code: -11}, {name: "FM/MOD", in: s(-1, -2, 2), code: -11}, {name: "SM/REM", in: s(-1, -2, 2), out: s(-1, least)}, {name: "FM/MOD", in: s(7, 0, 0), code: -10},
		{name: "S>D", in: s(7), out: s(7, 0)}, {name: "S>D", in: s(0), out: s(0, 0)}, {name: "S>D", in: s(-1), out: s(-1, -1)}, {name: "S>D", in: s(least), out: s(least, -1)}, {name: "S>D", in: s(most), out: s(most, 0)},
		{name: "WITHIN", in: s(5, 5, 9), out: s(-1)}, {name: "WITHIN", in: s(8, 5, 9), out: s(-1)}, {name: "WITHIN", in: s(9, 5, 9), out: s(0)}, {name: "WITHIN", in: s(4, 5, 9), out: s(0)},
		{name: "WITHIN", in: s(5, 5, 5), out: s(0)}, {name: "WITHIN", in: s(9, 8, 5), out: s(-1)}, {name: "WITHIN", in: s(6, 8, 5), out: s(0)}, {name: "WITHIN", in: s(least, most, least+1), out: s(-1)},
	}
}

func TestWide(t *testing.T) { checkAll(t, wideCases()) }

// someCells are cells at the edges, and some between.
func someCells(r *rand.Rand) []int {
	all := []int{0, 1, -1, 2, -2, 3, 7, -7, 8, 10, 63, 64, 65, least, least + 1, most, most - 1, 1 << 32, -1 << 32, 1 << 62}
	for range 6 {
		all = append(all, int(r.Uint64()), r.Intn(100)-50)
	}
	return all
}

// What is told of two cells, and of one, is what chapter 2 says, for each word.
func TestTwoAndOneAreThoseOfAlu(t *testing.T) {
	r := rand.New(rand.NewSource(11))
	v := plain(t)
	numbers := numbersByHand()
	for _, name := range namesInOrder() {
		n := numbers[name]
		for _, a := range someCells(r) {
			if n >= 59 && n <= 72 {
				want, _ := alu.One(name, a)
				got, code := Do(with(v, 5, a), n)
				expect(t, fmt.Sprint(name, " of ", a), got, code, with(v, 5, want), api.OK)
			}
			for _, b := range someCells(r) {
				if n < 39 || n > 58 {
					continue
				}
				was := with(v, 5, a, b)
				want, _, wantCode := alu.Two(name, a, b)
				behind := with(v, 5, want)
				if wantCode != api.OK {
					behind = was
				}
				got, code := Do(was, n)
				expect(t, fmt.Sprint(name, " of ", a, b), got, code, behind, wantCode)
			}
		}
	}
}

// What the words from DUP to DEPTH make of a stack is what chapter 4 says.
func TestShufflesAreThoseOfStk(t *testing.T) {
	r := rand.New(rand.NewSource(12))
	for i, name := range namesInOrder()[:16] {
		n := 23 + i
		for range 300 {
			v := busy(t)
			v.Conf.Data = 1 + r.Intn(9)
			v.D = make([]int, r.Intn(v.Conf.Data+1))
			for i := range v.D {
				v.D[i] = r.Intn(12) - 3
			}
			d, known, wantCode := stk.Shuffle(name, v.D, v.Conf.Data)
			if !known {
				t.Fatal(name)
			}
			got, code := Do(v, n)
			expect(t, fmt.Sprint(name, " of ", v.D, " of ", v.Conf.Data), got, code, with(v, d...), wantCode)
		}
	}
}

// wholes of a pair.
func unsigned(n int) *big.Int { return new(big.Int).SetUint64(uint64(n)) }

func pairOf(low, high *big.Int) *big.Int {
	return new(big.Int).Add(low, new(big.Int).Lsh(high, 64))
}

func signedPair(low, high int) *big.Int   { return pairOf(unsigned(low), big.NewInt(int64(high))) }
func unsignedPair(low, high int) *big.Int { return pairOf(unsigned(low), unsigned(high)) }

// The quotient times the divisor, and the rest, is the pair; and each rest is as its word says.
func TestTheQuotientTimesTheDivisorAndTheRestIsThePair(t *testing.T) {
	r := rand.New(rand.NewSource(13))
	v := plain(t)
	went := map[string]int{}
	for _, name := range []string{"UM/MOD", "SM/REM", "FM/MOD"} {
		for _, low := range someCells(r) {
			for _, high := range []int{0, -1, 1, -2, 5, low, least, most} {
				for _, d := range someCells(r) {
					was := with(v, 5, low, high, d)
					got, code := do(t, was, name)
					if code != api.OK {
						expect(t, name, got, code, was, code)
						continue
					}
					went[name]++
					rest, quotient := got.D[1], got.D[2]
					expectDivided(t, name, low, high, d, quotient, rest)
					expect(t, name, got, code, with(v, 5, rest, quotient), api.OK)
				}
			}
		}
		if went[name] < 100 {
			t.Errorf("%s: only %d went", name, went[name])
		}
	}
}

func expectDivided(t *testing.T, name string, low, high, d, quotient, rest int) {
	t.Helper()
	pair, read := signedPair(low, high), func(n int) *big.Int { return big.NewInt(int64(n)) }
	if name == "UM/MOD" {
		pair, read = unsignedPair(low, high), unsigned
	}
	sum := new(big.Int).Mul(read(quotient), read(d))
	sum.Add(sum, read(rest))
	small := read(rest).CmpAbs(read(d)) < 0
	sign := rest == 0
	switch name {
	case "UM/MOD":
		sign = true
	case "SM/REM":
		sign = sign || read(rest).Sign() == pair.Sign()
	case "FM/MOD":
		sign = sign || (rest < 0) == (d < 0)
	}
	if sum.Cmp(pair) != 0 || !small || !sign {
		t.Errorf("%s of %d, %d by %d: %d and %d", name, low, high, d, quotient, rest)
	}
}

// The same of one cell by another one, and of two cells' product by a third one.
func TestQuotientsAndRestsOfProducts(t *testing.T) {
	r := rand.New(rand.NewSource(14))
	v := plain(t)
	for _, a := range someCells(r) {
		for _, b := range someCells(r) {
			for _, d := range someCells(r) {
				low, high := cell.Mul(a, b)
				quotient, rest, wantCode := cell.FDiv(low, high, d)
				was := with(v, a, b, d)
				want, wantOne := with(v, rest, quotient), with(v, quotient)
				if wantCode != api.OK {
					want, wantOne = was, was
				}
				got, code := Do(was, 75)
				expect(t, fmt.Sprint("*/MOD of ", was.D), got, code, want, wantCode)
				got, code = Do(was, 74)
				expect(t, fmt.Sprint("*/ of ", was.D), got, code, wantOne, wantCode)
			}
			if b != 0 {
				got := done(t, with(v, a, b), "/MOD")
				if got.D[1]*b+got.D[0] != a {
					t.Errorf("/MOD of %d by %d: %v", a, b, got.D)
				}
			}
		}
	}
}

// What is multiplied is divided again.
func TestProductsAreDividedAgain(t *testing.T) {
	r := rand.New(rand.NewSource(15))
	v := plain(t)
	for _, a := range someCells(r) {
		for _, b := range someCells(r) {
			if got := done(t, with(v, a, b), "UM*"); unsignedPair(got.D[0], got.D[1]).Cmp(new(big.Int).Mul(unsigned(a), unsigned(b))) != 0 {
				t.Errorf("UM* of %d, %d: %v", a, b, got.D)
			}
			if got := done(t, with(v, a, b), "M*"); signedPair(got.D[0], got.D[1]).Cmp(new(big.Int).Mul(big.NewInt(int64(a)), big.NewInt(int64(b)))) != 0 {
				t.Errorf("M* of %d, %d: %v", a, b, got.D)
			}
			if b == 0 {
				continue
			}
			for product, quotient := range map[string]string{"UM*": "UM/MOD", "M*": "SM/REM"} {
				pair := done(t, with(v, a, b), product)
				if got := done(t, with(v, append(slices.Clone(pair.D), b)...), quotient); !slices.Equal(got.D, []int{0, a}) {
					t.Errorf("%s of %d, %d, and %s: %v", product, a, b, quotient, got.D)
				}
			}
			if got := done(t, with(v, a), "S>D"); signedPair(got.D[0], got.D[1]).Cmp(big.NewInt(int64(a))) != 0 {
				t.Errorf("S>D of %d: %v", a, got.D)
			}
		}
	}
}
