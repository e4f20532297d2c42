// Package cell is layer 1: see shared/doc/01-cell.md.
package cell

import (
	"math"
	"math/bits"

	"detent/api"
)

// Put is a cell's bytes.
func Put(n int) []byte {
	own := spread(uint64(n))
	out := make([]byte, len(own))
	copy(out, own[:])
	return out
}

// Get is the cell of bytes.
func Get(b []byte) (int, api.Throw) {
	if len(b) != api.Cell {
		return 0, api.BadNumber
	}
	var own [api.Cell]byte
	copy(own[:], b)
	return int(gather(own)), api.OK
}

// ULess: is one below another one, without a sign?
func ULess(a, b int) bool { return uint64(a) < uint64(b) }

// Div is a quotient, rounded down, and the rest.
func Div(a, b int) (int, int, api.Throw) {
	if b == 0 {
		return 0, 0, api.ByZero
	}
	q, r := a/b, a%b
	if leansUp(r, b) {
		q, r = q-1, r+b
	}
	return q, r, api.OK
}

// UMul is a product without a sign.
func UMul(a, b int) (int, int) {
	hi, lo := bits.Mul64(uint64(a), uint64(b))
	return int(lo), int(hi)
}

// Mul is a product with a sign.
func Mul(a, b int) (int, int) {
	lo, hi := UMul(a, b)
	// Read without a sign, a cell below 0 is 2^64 too much: the other one is in the high cell once too often.
	if a < 0 {
		hi -= b
	}
	if b < 0 {
		hi -= a
	}
	return lo, hi
}

// UDiv is a quotient without a sign, and the rest.
func UDiv(lo, hi, d int) (int, int, api.Throw) {
	q, r, code := divide(uint64(lo), uint64(hi), uint64(d))
	return int(q), int(r), code
}

// SDiv is a quotient, rounded to 0, and the rest.
func SDiv(lo, hi, d int) (int, int, api.Throw) {
	sizeLo, sizeHi := pairSize(lo, hi)
	q, r, code := divide(sizeLo, sizeHi, size(d))
	if code != api.OK {
		return 0, 0, code
	}
	quotient, fits := signed(q, (hi < 0) != (d < 0))
	if !fits {
		return 0, 0, api.Range
	}
	// The rest is below the divisor's size, which is at most 2^63: it always fits.
	rest, _ := signed(r, hi < 0)
	return quotient, rest, api.OK
}

// FDiv is a quotient of a pair, rounded down, and the rest.
func FDiv(lo, hi, d int) (int, int, api.Throw) {
	// A quotient that is out of range when rounded to 0 is so when rounded down: SDiv's codes hold here, too.
	q, r, code := SDiv(lo, hi, d)
	if code != api.OK {
		return 0, 0, code
	}
	if !leansUp(r, d) {
		return q, r, api.OK
	}
	if q == math.MinInt {
		return 0, 0, api.Range
	}
	return q - 1, r + d, api.OK
}

// spread is the bytes of a number, the lowest first.
func spread(n uint64) [api.Cell]byte {
	var b [api.Cell]byte
	for i := range b {
		b[i] = byte(n >> (8 * i))
	}
	return b
}

// gather is the number of bytes, the lowest first.
func gather(b [api.Cell]byte) uint64 {
	n := uint64(0)
	for i := range b {
		n |= uint64(b[i]) << (8 * i)
	}
	return n
}

// leansUp: was a quotient that left this rest, rounded to 0, rounded up?
func leansUp(rest, divisor int) bool {
	return rest != 0 && (rest < 0) != (divisor < 0)
}

// divide is a quotient of a pair, and the rest, all of it without a sign.
func divide(lo, hi, d uint64) (uint64, uint64, api.Throw) {
	if d == 0 {
		return 0, 0, api.ByZero
	}
	if hi >= d {
		return 0, 0, api.Range
	}
	q, r := bits.Div64(hi, lo, d)
	return q, r, api.OK
}

// size is how far a cell is from 0: that of the least one has no room in a cell.
func size(n int) uint64 {
	if n < 0 {
		return -uint64(n)
	}
	return uint64(n)
}

// pairSize is how far a pair with a sign is from 0.
func pairSize(lo, hi int) (uint64, uint64) {
	if hi >= 0 {
		return uint64(lo), uint64(hi)
	}
	low, borrow := bits.Sub64(0, uint64(lo), 0)
	high, _ := bits.Sub64(0, uint64(hi), borrow)
	return low, high
}

// signed is the cell so far above 0, or below it; no: there is none.
func signed(far uint64, below bool) (int, bool) {
	if below && far <= 1<<63 {
		return int(-far), true
	}
	if !below && far <= math.MaxInt {
		return int(far), true
	}
	return 0, false
}
