// Package set is layer 2: sets of small numbers: see shared/doc/02-set.md.
package set

import (
	"math/bits"
	"slices"
)

const (
	partBits = 64
	most     = 128
)

// Set has numbers from 0 to 127.
type Set [2]uint64

// Of: of numbers; Full: of all from 0 on, so many.
func Of(l ...int) Set {
	var s Set
	for _, i := range l {
		s = s.With(i)
	}
	return s
}

func Full(n int) Set {
	n = min(max(n, 0), most)
	return Set{lowest(n), lowest(n - partBits)}
}

// lowest relies on a shift by all the bits being 0, which makes all of them 1.
func lowest(n int) uint64 { return uint64(1)<<max(n, 0) - 1 }

// With, Without: and a number, or without; Has: is it in?
func (s Set) With(i int) Set { return s.Or(single(i)) }

func (s Set) Without(i int) Set { return s.Minus(single(i)) }

func (s Set) Has(i int) bool { return s.And(single(i)) != Set{} }

// single is empty if no set can have the number.
func single(i int) Set {
	var s Set
	if i >= 0 && i < most {
		s[i/partBits] = 1 << (i % partBits)
	}
	return s
}

// Count: how many; First: the least; Next: the least above a number; -1: none.
func (s Set) Count() int { return bits.OnesCount64(s[0]) + bits.OnesCount64(s[1]) }

func (s Set) First() int {
	switch {
	case s[0] != 0:
		return bits.TrailingZeros64(s[0])
	case s[1] != 0:
		return partBits + bits.TrailingZeros64(s[1])
	}
	return -1
}

func (s Set) Next(i int) int {
	if i >= most { // i + 1 might not be an int
		return -1
	}
	return s.Minus(Full(i + 1)).First()
}

// Rank: how many are less; Nth: the one with so many less; -1: none.
func (s Set) Rank(i int) int { return s.And(Full(i)).Count() }

func (s Set) Nth(k int) int {
	for i := range s.All() {
		if k == 0 {
			return i
		}
		k--
	}
	return -1
}

// And, Or, Minus: of two; In: are all of it in the other?
func (s Set) And(t Set) Set { return Set{s[0] & t[0], s[1] & t[1]} }

func (s Set) Or(t Set) Set { return Set{s[0] | t[0], s[1] | t[1]} }

func (s Set) Minus(t Set) Set { return Set{s[0] &^ t[0], s[1] &^ t[1]} }

func (s Set) In(t Set) bool { return s.Minus(t) == Set{} }

// List: all, rising; All: one by one.
func (s Set) List() []int { return slices.Collect(s.All()) }

func (s Set) All() func(yield func(int) bool) {
	return func(yield func(int) bool) {
		if yield == nil { // nobody to tell, and a call would panic
			return
		}
		for p, part := range s {
			for ; part != 0; part &= part - 1 {
				if !yield(p*partBits + bits.TrailingZeros64(part)) {
					return
				}
			}
		}
	}
}
