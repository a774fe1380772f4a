package arith

import (
	"cmp"
	"math/bits"
)

// wide is a signed number of 128 bits in two's complement. Every product of two
// ints fits, and so does the sum of any list, so overflow need only be looked
// for once, at the end.
type wide struct {
	hi, lo uint64
}

func widen(a int) wide { return wide{uint64(a >> 63), uint64(a)} }

func product(a, b int) wide {
	hi, lo := bits.Mul64(uint64(a), uint64(b))
	// Read as unsigned, a negative factor is 2^64 too great, which makes the
	// product too great by 2^64 times the other factor.
	if a < 0 {
		hi -= uint64(b)
	}
	if b < 0 {
		hi -= uint64(a)
	}
	return wide{hi, lo}
}

func (w wide) plus(v wide) wide {
	lo, carry := bits.Add64(w.lo, v.lo, 0)
	hi, _ := bits.Add64(w.hi, v.hi, carry)
	return wide{hi, lo}
}

func (w wide) minus(v wide) wide {
	lo, borrow := bits.Sub64(w.lo, v.lo, 0)
	hi, _ := bits.Sub64(w.hi, v.hi, borrow)
	return wide{hi, lo}
}

// compare takes the high halves as signed and the low ones as unsigned: only the
// highest bit of the whole number is a sign.
func (w wide) compare(v wide) int {
	if c := cmp.Compare(int64(w.hi), int64(v.hi)); c != 0 {
		return c
	}
	return cmp.Compare(w.lo, v.lo)
}

// narrow says false if the number is not an int.
func (w wide) narrow() (int, bool) {
	n := int(w.lo)
	if widen(n) != w {
		return 0, false
	}
	return n, true
}
