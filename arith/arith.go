// Package arith is layer 1: sums and products that say when they are too great: see shared/doc/01-arith.md.
package arith

import (
	"math"
	"math/bits"
)

// Add, Sub, Mul, Neg: of whole numbers; false: no int is it.
func Add(a, b int) (int, bool) { return widen(a).plus(widen(b)).narrow() }

func Sub(a, b int) (int, bool) { return widen(a).minus(widen(b)).narrow() }

func Mul(a, b int) (int, bool) { return product(a, b).narrow() }

func Neg(a int) (int, bool) { return Sub(0, a) }

// Div: the greatest number whose product with b isn't above a, and the rest.
func Div(a, b int) (q, r int, ok bool) {
	if b <= 0 {
		return 0, 0, false
	}
	q, r = a/b, a%b
	if r < 0 { // the language rounds towards 0, which is up for a negative number
		q, r = q-1, r+b
	}
	return q, r, true
}

// Sum: of all.
func Sum(l ...int) (int, bool) {
	var sum wide
	for _, n := range l {
		sum = sum.plus(widen(n))
	}
	return sum.narrow()
}

// Cross: is a times b less than c times d (-1), the same (0), or more (1)?
func Cross(a, b, c, d int) int { return product(a, b).compare(product(c, d)) }

// Part: a times b, divided by c, its whole part.
func Part(a, b, c int) (int, bool) {
	if a < 0 || b < 0 || c <= 0 {
		return 0, false
	}
	hi, lo := bits.Mul64(uint64(a), uint64(b))
	if hi >= uint64(c) { // the quotient would be at least 2^64, where Div64 panics
		return 0, false
	}
	q, _ := bits.Div64(hi, lo, uint64(c))
	if q > math.MaxInt {
		return 0, false
	}
	return int(q), true
}

// Gcd: the greatest divisor of both.
func Gcd(a, b int) int {
	x, y := size(a), size(b)
	for y != 0 {
		x, y = y, x%y
	}
	if x > math.MaxInt {
		return 0
	}
	return int(x)
}

// size is unsigned, since that of -2^63 is not an int.
func size(a int) uint64 {
	if a < 0 {
		return -uint64(a)
	}
	return uint64(a)
}

// Up: a sum that stays at the greatest int.
func Up(a, b int) int {
	if a < 0 || b < 0 {
		return 0
	}
	if a > math.MaxInt-b {
		return math.MaxInt
	}
	return a + b
}
