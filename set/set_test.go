package set_test

import (
	"math"
	"math/rand"
	"slices"
	"testing"

	"kurgan/set"
)

// model is a set written out: what is tested is held against it.
type model [128]bool

func (m model) set() set.Set {
	var s set.Set
	for i, in := range m {
		if in {
			s[i/64] += 1 << (i % 64)
		}
	}
	return s
}

func (m model) list() []int {
	var l []int
	for i, in := range m {
		if in {
			l = append(l, i)
		}
	}
	return l
}

// models are sets with few and many elements, and those at the ends of both parts.
func models() []model {
	l := []model{{}}
	for _, i := range []int{0, 1, 62, 63, 64, 65, 126, 127} {
		var m model
		m[i] = true
		l = append(l, m)
	}
	r := rand.New(rand.NewSource(1))
	for _, share := range []float64{0.03, 0.2, 0.5, 0.9, 1} {
		for range 6 {
			var m model
			for i := range m {
				m[i] = r.Float64() < share
			}
			l = append(l, m)
		}
	}
	var low, high model
	for i := range 64 {
		low[i], high[i+64] = true, true
	}
	return append(l, low, high)
}

// numbers are arguments within the range of elements and far outside.
func numbers() []int {
	l := []int{math.MinInt, math.MinInt + 1, -1 << 32, 1 << 32, 1<<32 + 5, math.MaxInt - 1, math.MaxInt}
	for i := -130; i <= 260; i++ {
		l = append(l, i)
	}
	return l
}

func TestOf(t *testing.T) {
	if set.Of() != (set.Set{}) || set.Of(nil...) != (set.Set{}) {
		t.Error("the empty list")
	}
	l := []int{3, 200, 1, -1, 128, 127, 3, math.MinInt, math.MaxInt, 0, 64, 63}
	before := slices.Clone(l)
	if got := set.Of(l...); got != (set.Set{1 | 1<<1 | 1<<3 | 1<<63, 1 | 1<<63}) {
		t.Errorf("%x", got)
	}
	if !slices.Equal(l, before) {
		t.Error("the list was changed:", l)
	}
	for _, m := range models() {
		if set.Of(m.list()...) != m.set() {
			t.Error(m.list())
		}
	}
}

func TestFull(t *testing.T) {
	for _, n := range numbers() {
		var m model
		for i := range m {
			m[i] = i < n
		}
		if set.Full(n) != m.set() {
			t.Errorf("Full(%d) = %x", n, set.Full(n))
		}
	}
}

func TestOneNumber(t *testing.T) {
	for _, m := range models() {
		s := m.set()
		for _, i := range numbers() {
			with, without, has := m, m, false
			if i >= 0 && i <= 127 {
				with[i], without[i], has = true, false, m[i]
			}
			if s.With(i) != with.set() || s.Without(i) != without.set() || s.Has(i) != has {
				t.Errorf("%v and %d: %x, %x, %v", m.list(), i, s.With(i), s.Without(i), s.Has(i))
			}
		}
		if s != m.set() {
			t.Error("a set was changed:", m.list())
		}
	}
}

func TestPlaces(t *testing.T) {
	for _, m := range models() {
		s, l := m.set(), m.list()
		first := -1
		if len(l) > 0 {
			first = l[0]
		}
		if s.Count() != len(l) || s.First() != first {
			t.Error(l, s.Count(), s.First())
		}
		for _, i := range numbers() {
			next, rank, nth := -1, 0, -1
			for _, x := range l {
				if x < i {
					rank++
				}
				if x > i && next < 0 {
					next = x
				}
			}
			if i >= 0 && i < len(l) {
				nth = l[i]
			}
			if s.Next(i) != next || s.Rank(i) != rank || s.Nth(i) != nth {
				t.Errorf("%v and %d: %d, %d, %d; not %d, %d, %d", l, i, s.Next(i), s.Rank(i), s.Nth(i), next, rank, nth)
			}
		}
	}
}

func TestTwoSets(t *testing.T) {
	for _, m := range models() {
		for _, n := range models() {
			var and, or, minus model
			in := true
			for i := range m {
				and[i], or[i], minus[i] = m[i] && n[i], m[i] || n[i], m[i] && !n[i]
				in = in && (!m[i] || n[i])
			}
			a, b := m.set(), n.set()
			if a.And(b) != and.set() || a.Or(b) != or.set() || a.Minus(b) != minus.set() || a.In(b) != in {
				t.Errorf("%v and %v: %x, %x, %x, %v", m.list(), n.list(), a.And(b), a.Or(b), a.Minus(b), a.In(b))
			}
		}
	}
}

func TestList(t *testing.T) {
	for _, m := range models() {
		s := m.set()
		l := s.List()
		if !slices.Equal(l, m.list()) {
			t.Error(l, m.list())
		}
		for i := range l {
			l[i] = -7
		}
		if s != m.set() || !slices.Equal(s.List(), m.list()) {
			t.Error("a list shares memory:", m.list())
		}
	}
}

func TestAll(t *testing.T) {
	for _, m := range models() {
		all, want := m.set().All(), m.list()
		for stop := range len(want) + 1 { // the same iterator, again and again
			var got []int
			all(func(i int) bool {
				got = append(got, i)
				return len(got) < stop
			})
			if !slices.Equal(got, want[:min(max(stop, 1), len(want))]) {
				t.Errorf("%v up to %d: %v", want, stop, got)
			}
		}
		all(nil)
	}
	pairs := 0
	s := set.Of(1, 64, 127)
	for i := range s.All() {
		for j := range s.All() {
			if i <= j {
				pairs++
			}
		}
	}
	if pairs != 6 {
		t.Error("one within the other:", pairs)
	}
}

func TestExamples(t *testing.T) {
	if !slices.Equal(set.Of(3, 200, 1).List(), []int{1, 3}) || set.Full(70).Count() != 70 {
		t.Error("lists")
	}
	if s := set.Of(5, 9); s.Next(5) != 9 || s.Nth(1) != 9 || s.Rank(9) != 1 {
		t.Error("places")
	}
}
