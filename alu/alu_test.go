package alu

import (
	"math"
	"math/big"
	"strings"
	"testing"

	"detent/api"
)

const (
	least = math.MinInt
	most  = math.MaxInt
)

// edges are cells near all places where a sign, a multiple of 8 or the range turns.
func edges() []int {
	return []int{
		least, least + 1, least + 2, least + 7, least + 8, least + 9, least / 2, least/2 - 1, least / 8, least/8 - 1,
		-1 << 32, -100, -65, -64, -63, -17, -16, -15, -9, -8, -7, -3, -2, -1,
		0, 1, 2, 3, 7, 8, 9, 15, 16, 17, 62, 63, 64, 65, 66, 100, 1 << 32,
		most / 8, most/8 + 1, most / 2, most/2 + 1, most - 8, most - 7, most - 6, most - 1, most,
		0x0123456789abcdef, -0x0123456789abcdef,
	}
}

// The reference reckons with whole numbers of any size.

func whole(n int) *big.Int { return big.NewInt(int64(n)) }

func noSign(n int) *big.Int { return new(big.Int).SetUint64(uint64(n)) }

func fresh() *big.Int { return new(big.Int) }

// round is the cell that a whole number is, gone round at 2^64.
func round(n *big.Int) int {
	turn := fresh().Lsh(big.NewInt(1), 64)
	return int(fresh().Mod(n, turn).Uint64())
}

func flag(is bool) int {
	if is {
		return -1
	}
	return 0
}

// downBy is a quotient rounded down: big's Div keeps the rest from 0 on, which is the same for a divisor above 0.
func downBy(a *big.Int, by int64) *big.Int { return fresh().Div(a, big.NewInt(by)) }

func flooredQuotient(a, b int) (*big.Int, *big.Int) {
	q, r := fresh().QuoRem(whole(a), whole(b), fresh())
	if r.Sign() != 0 && r.Sign() != whole(b).Sign() {
		q.Sub(q, big.NewInt(1))
		r.Add(r, whole(b))
	}
	return q, r
}

// onesByHand are the names of P2.1, each with what it is by whole numbers.
func onesByHand() map[string]func(a int) int {
	return map[string]func(a int) int{
		"NEGATE": func(a int) int { return round(fresh().Neg(whole(a))) },
		"ABS":    func(a int) int { return round(fresh().Abs(whole(a))) },
		"INVERT": func(a int) int { return round(fresh().Sub(big.NewInt(-1), whole(a))) },
		"1+":     func(a int) int { return round(fresh().Add(whole(a), big.NewInt(1))) },
		"1-":     func(a int) int { return round(fresh().Sub(whole(a), big.NewInt(1))) },
		"2*":     func(a int) int { return round(fresh().Mul(whole(a), big.NewInt(2))) },
		"2/":     func(a int) int { return round(downBy(whole(a), 2)) },
		"0=":     func(a int) int { return flag(whole(a).Sign() == 0) },
		"0<":     func(a int) int { return flag(whole(a).Sign() < 0) },
		"0<>":    func(a int) int { return flag(whole(a).Sign() != 0) },
		"0>":     func(a int) int { return flag(whole(a).Sign() > 0) },
		"CELLS":  func(a int) int { return round(fresh().Mul(whole(a), big.NewInt(8))) },
		"CELL+":  func(a int) int { return round(fresh().Add(whole(a), big.NewInt(8))) },
		"ALIGNED": func(a int) int {
			up := downBy(fresh().Add(whole(a), big.NewInt(7)), 8)
			return round(up.Mul(up, big.NewInt(8)))
		},
	}
}

func shiftedUp(a, b int) int {
	if noSign(b).Cmp(big.NewInt(63)) > 0 {
		return 0
	}
	return round(fresh().Lsh(noSign(a), uint(b)))
}

func shiftedDown(a, b int) int {
	if noSign(b).Cmp(big.NewInt(63)) > 0 {
		return 0
	}
	return round(fresh().Rsh(noSign(a), uint(b)))
}

// twosByHand are the names of P2.2, each with what it is by whole numbers.
func twosByHand() map[string]func(a, b int) int {
	return map[string]func(a, b int) int{
		"+":      func(a, b int) int { return round(fresh().Add(whole(a), whole(b))) },
		"-":      func(a, b int) int { return round(fresh().Sub(whole(a), whole(b))) },
		"*":      func(a, b int) int { return round(fresh().Mul(whole(a), whole(b))) },
		"/":      func(a, b int) int { q, _ := flooredQuotient(a, b); return round(q) },
		"MOD":    func(a, b int) int { _, r := flooredQuotient(a, b); return round(r) },
		"AND":    func(a, b int) int { return round(fresh().And(noSign(a), noSign(b))) },
		"OR":     func(a, b int) int { return round(fresh().Or(noSign(a), noSign(b))) },
		"XOR":    func(a, b int) int { return round(fresh().Xor(noSign(a), noSign(b))) },
		"LSHIFT": shiftedUp,
		"RSHIFT": shiftedDown,
		"MIN": func(a, b int) int {
			if whole(a).Cmp(whole(b)) < 0 {
				return a
			}
			return b
		},
		"MAX": func(a, b int) int {
			if whole(a).Cmp(whole(b)) > 0 {
				return a
			}
			return b
		},
		"=":  func(a, b int) int { return flag(whole(a).Cmp(whole(b)) == 0) },
		"<>": func(a, b int) int { return flag(whole(a).Cmp(whole(b)) != 0) },
		"<":  func(a, b int) int { return flag(whole(a).Cmp(whole(b)) < 0) },
		">":  func(a, b int) int { return flag(whole(a).Cmp(whole(b)) > 0) },
		"<=": func(a, b int) int { return flag(whole(a).Cmp(whole(b)) <= 0) },
		">=": func(a, b int) int { return flag(whole(a).Cmp(whole(b)) >= 0) },
		"U<": func(a, b int) int { return flag(noSign(a).Cmp(noSign(b)) < 0) },
		"U>": func(a, b int) int { return flag(noSign(a).Cmp(noSign(b)) > 0) },
	}
}

// strangers are names of neither table: near ones, those of other layers, and none at all.
func strangers() []string {
	return []string{
		"", " ", "0", "1", "negate", "Abs", "abs", "NEGATE ", " NEGATE", "NEGATES", "NEGAT", "1+ ", "2+", "2-", "2", "0<=", "0>=", "0U<",
		"CELL", "CELL-", "ALIGN", "ALIGNE", "NOT", "DUP", "SWAP", "/MOD", "*/", "UM*", "U<=", "U>=", "U=", "u<", "mod", "Min", "==", "!=", "=<", "=>",
		"ARSHIFT", "SHIFT", "WITHIN", "NAND", "<<", ">>", "\x00", "+\x00", "é", "\xff", strings.Repeat("+", 1000),
	}
}

// P2.1

func TestOneAtTheEdgesIsWhatWholeNumbersSay(t *testing.T) {
	byHand := onesByHand()
	if len(byHand) != 14 {
		t.Fatal("the table has 14 names, here are", len(byHand))
	}
	for name, want := range byHand {
		for _, a := range edges() {
			if got, known := One(name, a); got != want(a) || !known {
				t.Errorf("One(%q, %d) = %d, %v, want %d", name, a, got, known, want(a))
			}
		}
	}
}

func TestOneByExample(t *testing.T) {
	for _, x := range []struct {
		name    string
		a, want int
	}{
		{"2/", -3, -2}, {"2/", 3, 1}, {"2/", -1, -1}, {"2/", 1, 0}, {"2/", least, least / 2}, {"2/", most, most / 2},
		{"ALIGNED", 9, 16}, {"ALIGNED", 8, 8}, {"ALIGNED", 0, 0}, {"ALIGNED", 1, 8}, {"ALIGNED", -1, 0}, {"ALIGNED", -8, -8}, {"ALIGNED", -9, -8},
		{"ALIGNED", most, least}, {"ALIGNED", most - 6, least}, {"ALIGNED", most - 7, most - 7}, {"ALIGNED", least, least}, {"ALIGNED", least + 1, least + 8},
		{"NEGATE", 5, -5}, {"NEGATE", 0, 0}, {"NEGATE", least, least}, {"NEGATE", most, -most},
		{"ABS", -5, 5}, {"ABS", 5, 5}, {"ABS", 0, 0}, {"ABS", least, least}, {"ABS", least + 1, most},
		{"INVERT", 0, -1}, {"INVERT", -1, 0}, {"INVERT", most, least}, {"INVERT", 5, -6},
		{"1+", most, least}, {"1+", -1, 0}, {"1-", least, most}, {"1-", 0, -1},
		{"2*", 21, 42}, {"2*", most, -2}, {"2*", least, 0}, {"2*", 1 << 62, least},
		{"CELLS", 3, 24}, {"CELLS", -1, -8}, {"CELLS", most, -8}, {"CELLS", least, 0}, {"CELLS", 1 << 60, least},
		{"CELL+", 3, 11}, {"CELL+", -8, 0}, {"CELL+", most, least + 7},
		{"0=", 0, -1}, {"0=", 1, 0}, {"0=", -1, 0}, {"0<", -1, -1}, {"0<", 0, 0}, {"0<", least, -1}, {"0<", most, 0},
		{"0<>", 0, 0}, {"0<>", 1, -1}, {"0<>", -1, -1}, {"0<>", least, -1}, {"0>", 1, -1}, {"0>", 0, 0}, {"0>", least, 0}, {"0>", most, -1},
	} {
		if got, known := One(x.name, x.a); got != x.want || !known {
			t.Errorf("One(%q, %d) = %d, %v, want %d", x.name, x.a, got, known, x.want)
		}
	}
}

func TestOneKnowsNoOtherName(t *testing.T) {
	names := strangers()
	for name := range twosByHand() {
		names = append(names, name)
	}
	for _, name := range names {
		for _, a := range edges() {
			if got, known := One(name, a); got != 0 || known {
				t.Errorf("One(%q, %d) = %d, %v, want 0, no", name, a, got, known)
			}
		}
	}
}

// P2.2

func TestTwoAtTheEdgesIsWhatWholeNumbersSay(t *testing.T) {
	byHand := twosByHand()
	if len(byHand) != 20 {
		t.Fatal("the table has 20 names, here are", len(byHand))
	}
	for name, want := range byHand {
		for _, a := range edges() {
			for _, b := range edges() {
				if b == 0 && (name == "/" || name == "MOD") {
					continue
				}
				if got, known, code := Two(name, a, b); got != want(a, b) || !known || code != api.OK {
					t.Errorf("Two(%q, %d, %d) = %d, %v, %d, want %d", name, a, b, got, known, code, want(a, b))
				}
			}
		}
	}
}

func TestTwoByExample(t *testing.T) {
	for _, x := range []struct {
		name       string
		a, b, want int
	}{
		{"+", most, 1, least}, {"-", least, 1, most}, {"-", 0, least, least}, {"-", 3, 5, -2}, {"*", most, 2, -2}, {"*", least, -1, least}, {"*", -3, 5, -15},
		{"/", 7, 2, 3}, {"/", -7, 2, -4}, {"/", 7, -2, -4}, {"/", -7, -2, 3}, {"/", least, -1, least}, {"/", least, 1, least}, {"/", 0, 5, 0},
		{"MOD", 7, 2, 1}, {"MOD", -7, 2, 1}, {"MOD", 7, -2, -1}, {"MOD", -7, -2, -1}, {"MOD", least, -1, 0}, {"MOD", most, least, -1},
		{"AND", 12, 10, 8}, {"OR", 12, 10, 14}, {"XOR", 12, 10, 6}, {"AND", -1, least, least}, {"OR", least, most, -1}, {"XOR", -1, most, least},
		{"MIN", -1, 1, -1}, {"MIN", 1, -1, -1}, {"MIN", least, most, least}, {"MAX", -1, 1, 1}, {"MAX", 1, -1, 1}, {"MAX", least, most, most},
		{"=", 2, 2, -1}, {"=", 2, 3, 0}, {"<>", 2, 2, 0}, {"<>", 2, 3, -1},
		{"<", 2, 3, -1}, {"<", 3, 3, 0}, {"<", 4, 3, 0}, {">", 2, 3, 0}, {">", 3, 3, 0}, {">", 4, 3, -1},
		{"<=", 2, 3, -1}, {"<=", 3, 3, -1}, {"<=", 4, 3, 0}, {">=", 2, 3, 0}, {">=", 3, 3, -1}, {">=", 4, 3, -1},
		{"<", least, most, -1}, {"<", most, least, 0}, {"<", -1, 0, -1},
		{"U<", 0, -1, -1}, {"U<", -1, 0, 0}, {"U<", -1, -1, 0}, {"U<", most, least, -1},
		{"U>", 0, -1, 0}, {"U>", -1, 0, -1}, {"U>", -1, -1, 0}, {"U>", most, least, 0},
	} {
		if got, known, code := Two(x.name, x.a, x.b); got != x.want || !known || code != api.OK {
			t.Errorf("Two(%q, %d, %d) = %d, %v, %d, want %d", x.name, x.a, x.b, got, known, code, x.want)
		}
	}
}

func TestShiftsReadTheirPlacesWithoutASign(t *testing.T) {
	for _, x := range []struct{ a, b, up, down int }{
		{-1, 0, -1, -1}, {-1, 1, -2, most}, {-1, 63, least, 1}, {-1, 64, 0, 0}, {-1, 65, 0, 0},
		{-1, -1, 0, 0}, {-1, -63, 0, 0}, {-1, -64, 0, 0}, {-1, least, 0, 0}, {-1, least + 1, 0, 0}, {-1, most, 0, 0}, {-1, 1 << 32, 0, 0}, {-1, 1<<32 + 1, 0, 0},
		{1, 63, least, 0}, {1, 62, 1 << 62, 0}, {6, 1, 12, 3}, {least, 1, 0, 1 << 62}, {least, 63, 0, 1}, {0, 5, 0, 0},
	} {
		if got, known, code := Two("LSHIFT", x.a, x.b); got != x.up || !known || code != api.OK {
			t.Errorf("LSHIFT of %d by %d = %d, %v, %d, want %d", x.a, x.b, got, known, code, x.up)
		}
		if got, known, code := Two("RSHIFT", x.a, x.b); got != x.down || !known || code != api.OK {
			t.Errorf("RSHIFT of %d by %d = %d, %v, %d, want %d", x.a, x.b, got, known, code, x.down)
		}
	}
}

func TestADivisorOfZeroIsACode(t *testing.T) {
	for _, name := range []string{"/", "MOD"} {
		for _, a := range edges() {
			if got, known, code := Two(name, a, 0); got != 0 || !known || code != api.ByZero {
				t.Errorf("Two(%q, %d, 0) = %d, %v, %d, want 0, yes, ByZero", name, a, got, known, code)
			}
		}
	}
}

func TestTwoKnowsNoOtherName(t *testing.T) {
	names := strangers()
	for name := range onesByHand() {
		names = append(names, name)
	}
	for _, name := range names {
		for _, a := range []int{least, -1, 0, 1, most} {
			for _, b := range []int{least, -1, 0, 1, most} {
				if got, known, code := Two(name, a, b); got != 0 || known || code != api.OK {
					t.Errorf("Two(%q, %d, %d) = %d, %v, %d, want 0, no, OK", name, a, b, got, known, code)
				}
			}
		}
	}
}

// P2.3

func TestWithinAtTheEdgesIsWhatWholeNumbersSay(t *testing.T) {
	difference := func(a, b int) *big.Int { return noSign(round(fresh().Sub(whole(a), whole(b)))) }
	for _, x := range edges() {
		for _, lo := range edges() {
			for _, hi := range edges() {
				want := difference(x, lo).Cmp(difference(hi, lo)) < 0
				if got := Within(x, lo, hi); got != want {
					t.Errorf("Within(%d, %d, %d) = %v, want %v", x, lo, hi, got, want)
				}
			}
		}
	}
}

func TestWithinByExample(t *testing.T) {
	for _, x := range []struct {
		x, lo, hi int
		want      bool
	}{
		{5, 1, 10, true}, {1, 1, 10, true}, {10, 1, 10, false}, {9, 1, 10, true}, {0, 1, 10, false}, {11, 1, 10, false},
		{-5, -10, -1, true}, {-1, -10, -1, false}, {0, -1, 1, true}, {1, -1, 1, false},
		// No cell is within bounds that are one and the same.
		{5, 5, 5, false}, {4, 5, 5, false}, {0, 0, 0, false}, {most, least, least, false},
		// With the lower bound above, what is within goes round by the greatest cell.
		{11, 10, 1, true}, {0, 10, 1, true}, {1, 10, 1, false}, {5, 10, 1, false}, {10, 10, 1, true}, {least, 10, 1, true},
		{most, most, least, true}, {least, most, least, false}, {most, least, most, false}, {most - 1, least, most, true},
		{0, least, most, true}, {least, most - 1, least + 1, true}, {least + 1, most - 1, least + 1, false}, {most, most - 1, least + 1, true},
	} {
		if got := Within(x.x, x.lo, x.hi); got != x.want {
			t.Errorf("Within(%d, %d, %d) = %v, want %v", x.x, x.lo, x.hi, got, x.want)
		}
	}
}

// P2.4

func TestStepAtTheEdgesIsWhatWholeNumbersSay(t *testing.T) {
	for _, index := range edges() {
		for _, limit := range edges() {
			d := whole(round(fresh().Sub(whole(index), whole(limit))))
			for _, n := range edges() {
				sum := fresh().Add(d, whole(n))
				over := d.Sign() < 0 && sum.Sign() >= 0
				if n < 0 {
					over = d.Sign() >= 0 && sum.Sign() < 0
				}
				next := round(fresh().Add(whole(index), whole(n)))
				if got, is := Step(index, limit, n); got != next || is != over {
					t.Errorf("Step(%d, %d, %d) = %d, %v, want %d, %v", index, limit, n, got, is, next, over)
				}
			}
		}
	}
}

func TestStepByExample(t *testing.T) {
	for _, x := range []struct {
		index, limit, n int
		next            int
		over            bool
	}{
		{9, 10, 1, 10, true}, {8, 10, 1, 9, false}, {10, 10, 1, 11, false}, {11, 10, 1, 12, false},
		// By more than what is left, and by less.
		{8, 10, 5, 13, true}, {8, 10, 2, 10, true}, {7, 10, 2, 9, false},
		// By nothing: it is never over.
		{9, 10, 0, 9, false}, {10, 10, 0, 10, false}, {11, 10, 0, 11, false},
		// Downwards the limit itself is still gone through.
		{10, 10, -1, 9, true}, {11, 10, -1, 10, false}, {9, 10, -1, 8, false}, {12, 10, -5, 7, true}, {12, 10, -2, 10, false},
		// The index goes round, and the difference does.
		{most, least, 1, least, true}, {most, most, 1, least, false}, {least, most, -1, most, false}, {least, least, -1, most, true},
		{most - 1, least, 1, most, false}, {most, 0, 1, least, false}, {least, 0, -1, most, false}, {least, 0, most, -1, false},
		{least, 0, 1, least + 1, false}, {0, least, 1, 1, false}, {0, least, most, most, false}, {1, least, most, least, true},
		{-1, least, least, most, true}, {-1, 0, most, most - 1, true}, {most, 0, least, -1, true}, {most, -1, most, -2, false},
	} {
		if got, is := Step(x.index, x.limit, x.n); got != x.next || is != x.over {
			t.Errorf("Step(%d, %d, %d) = %d, %v, want %d, %v", x.index, x.limit, x.n, got, is, x.next, x.over)
		}
	}
}

// P2.5

// turns is how often a loop by n goes, at most bound times.
func turns(index, limit, n, bound int) int {
	for turn := 1; turn <= bound; turn++ {
		next, over := Step(index, limit, n)
		if over {
			return turn
		}
		index = next
	}
	return -1
}

func TestALoopByOneGoesAsOftenAsItsBoundsSay(t *testing.T) {
	for _, from := range []int{least, least + 3, -1000, -3, -1, 0, 1, 5, most - 300} {
		for _, length := range []int{1, 2, 3, 7, 8, 100, 300} {
			if got := turns(from, from+length, 1, 1000); got != length {
				t.Errorf("a loop from %d to %d goes %d times", from, from+length, got)
			}
		}
	}
}

func TestALoopGoesByItsStep(t *testing.T) {
	for _, x := range []struct{ from, limit, n, want int }{
		{0, 10, 3, 4}, {0, 9, 3, 3}, {0, 10, 100, 1}, {10, 0, -1, 11}, {10, 0, -3, 4}, {10, 0, -11, 1}, {0, 10, 0, -1}, {0, 0, 1, -1},
	} {
		if got := turns(x.from, x.limit, x.n, 1000); got != x.want {
			t.Errorf("a loop from %d to %d by %d goes %d times, want %d", x.from, x.limit, x.n, got, x.want)
		}
	}
}

func TestWhatIsTurnedTwiceIsItself(t *testing.T) {
	for _, name := range []string{"NEGATE", "INVERT"} {
		for _, a := range edges() {
			once, _ := One(name, a)
			if twice, known := One(name, once); twice != a || !known {
				t.Errorf("%s of %d, twice, is %d", name, a, twice)
			}
		}
	}
	for _, a := range edges() {
		for _, b := range edges() {
			once, _, _ := Two("XOR", a, b)
			if twice, known, code := Two("XOR", once, b); twice != a || !known || code != api.OK {
				t.Errorf("XOR of %d with %d, twice, is %d", a, b, twice)
			}
		}
	}
}
