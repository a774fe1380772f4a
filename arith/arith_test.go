package arith_test

import (
	"math"
	"math/big"
	"slices"
	"testing"

	"kurgan/arith"
)

// edges are ints around the places where sums, products and quotients change their kind.
func edges() []int {
	var l []int
	for _, n := range []int{0, 3, 7, 10, 12, 18, 1 << 31, 1 << 32, 3037000499, 1 << 40, 1 << 61, 1 << 62, math.MaxInt - 1} {
		for d := -1; d <= 1; d++ {
			l = append(l, n+d, -n-d)
		}
	}
	l = append(l, math.MinInt, math.MinInt/3, math.MaxInt/3)
	slices.Sort(l)
	return slices.Compact(l)
}

func wide(n int) *big.Int { return big.NewInt(int64(n)) }

// hold compares an answer with the exact number.
func hold(t *testing.T, what string, got int, ok bool, want *big.Int, args ...int) {
	t.Helper()
	if ok != want.IsInt64() || ok && int64(got) != want.Int64() || !ok && got != 0 {
		t.Errorf("%s of %v: %d, %v; exactly %v", what, args, got, ok, want)
	}
}

func TestPairs(t *testing.T) {
	for _, a := range edges() {
		n, ok := arith.Neg(a)
		hold(t, "Neg", n, ok, new(big.Int).Neg(wide(a)), a)
		for _, b := range edges() {
			n, ok = arith.Add(a, b)
			hold(t, "Add", n, ok, new(big.Int).Add(wide(a), wide(b)), a, b)
			n, ok = arith.Sub(a, b)
			hold(t, "Sub", n, ok, new(big.Int).Sub(wide(a), wide(b)), a, b)
			n, ok = arith.Mul(a, b)
			hold(t, "Mul", n, ok, new(big.Int).Mul(wide(a), wide(b)), a, b)
		}
	}
}

func TestDiv(t *testing.T) {
	for _, a := range edges() {
		for _, b := range edges() {
			q, r, ok := arith.Div(a, b)
			if b <= 0 {
				if q != 0 || r != 0 || ok {
					t.Errorf("Div(%d, %d) = %d, %d, %v", a, b, q, r, ok)
				}
				continue
			}
			wantQ, wantR := new(big.Int).DivMod(wide(a), wide(b), new(big.Int))
			if !ok || int64(q) != wantQ.Int64() || int64(r) != wantR.Int64() {
				t.Errorf("Div(%d, %d) = %d, %d, %v; exactly %v, %v", a, b, q, r, ok, wantQ, wantR)
			}
		}
	}
	for _, c := range []struct{ a, b, q, r int }{
		{-7, 3, -3, 2}, {7, 3, 2, 1}, {-6, 3, -2, 0}, {0, 5, 0, 0},
		{math.MinInt, 1, math.MinInt, 0}, {math.MinInt, math.MaxInt, -2, math.MaxInt - 1},
	} {
		if q, r, ok := arith.Div(c.a, c.b); q != c.q || r != c.r || !ok {
			t.Errorf("Div(%d, %d) = %d, %d, %v", c.a, c.b, q, r, ok)
		}
	}
}

func TestSum(t *testing.T) {
	lists := [][]int{
		nil,
		{},
		{-5},
		{math.MinInt},
		{math.MaxInt, 1},
		{math.MinInt, -1},
		{math.MaxInt, 1, -1},
		{math.MinInt, -1, 1},
		{math.MaxInt, math.MaxInt, math.MaxInt, math.MinInt, math.MinInt, math.MinInt},
		{math.MinInt, math.MinInt, math.MinInt, math.MaxInt, math.MaxInt, math.MaxInt, 3},
		{1 << 62, 1 << 62, -1 << 62, -1 << 62, 5},
		edges(),
		slices.Repeat([]int{math.MaxInt}, 1000),
		slices.Repeat([]int{math.MinInt}, 1000),
		append(slices.Repeat([]int{math.MaxInt}, 1000), slices.Repeat([]int{-math.MaxInt}, 1000)...),
		// these sums are 0 and 5 modulo 2^64, but no ints
		{math.MinInt, math.MinInt},
		{math.MinInt, math.MinInt, 5},
	}
	for _, l := range lists {
		before := slices.Clone(l)
		want := new(big.Int)
		for _, n := range l {
			want.Add(want, wide(n))
		}
		n, ok := arith.Sum(l...)
		hold(t, "Sum", n, ok, want, l...)
		if !slices.Equal(l, before) {
			t.Errorf("Sum changed its list to %v", l)
		}
	}
}

func TestCross(t *testing.T) {
	l := []int{math.MinInt, math.MinInt + 1, -1 << 62, -1 << 32, -3, -1, 0, 1, 2, 3, 1 << 31, 1 << 32, 1 << 62, math.MaxInt - 1, math.MaxInt}
	for _, a := range l {
		for _, b := range l {
			left := new(big.Int).Mul(wide(a), wide(b))
			for _, c := range l {
				for _, d := range l {
					want := left.Cmp(new(big.Int).Mul(wide(c), wide(d)))
					if got := arith.Cross(a, b, c, d); got != want {
						t.Errorf("Cross(%d, %d, %d, %d) = %d, not %d", a, b, c, d, got, want)
					}
				}
			}
		}
	}
	if arith.Cross(1<<62, 4, math.MaxInt, 2) != 1 {
		t.Error("the document's example")
	}
}

func TestPart(t *testing.T) {
	l := []int{math.MinInt, -1 << 32, -1, 0, 1, 2, 3, 7, 1 << 30, 1 << 32, 3037000499, 1 << 62, math.MaxInt - 1, math.MaxInt}
	for _, a := range l {
		for _, b := range l {
			for _, c := range l {
				n, ok := arith.Part(a, b, c)
				if a < 0 || b < 0 || c <= 0 {
					if n != 0 || ok {
						t.Errorf("Part(%d, %d, %d) = %d, %v", a, b, c, n, ok)
					}
					continue
				}
				want := new(big.Int).Mul(wide(a), wide(b))
				hold(t, "Part", n, ok, want.Quo(want, wide(c)), a, b, c)
			}
		}
	}
	if n, ok := arith.Part(1<<40, 1<<40, 1<<30); n != 1<<50 || !ok {
		t.Error("the document's example:", n, ok)
	}
	// 2^62 * 2 / 1 is the least quotient that is no int, 2^62 * 4 / 1 the least that has more than 64 bits
	for _, b := range []int{2, 4} {
		if n, ok := arith.Part(1<<62, b, 1); n != 0 || ok {
			t.Error(b, n, ok)
		}
	}
}

func TestGcd(t *testing.T) {
	for _, a := range edges() {
		for _, b := range edges() {
			want := new(big.Int).GCD(nil, nil, new(big.Int).Abs(wide(a)), new(big.Int).Abs(wide(b)))
			if !want.IsInt64() {
				want.SetInt64(0)
			}
			if got := arith.Gcd(a, b); int64(got) != want.Int64() {
				t.Errorf("Gcd(%d, %d) = %d, not %v", a, b, got, want)
			}
		}
	}
	for _, c := range []struct{ a, b, want int }{
		{-12, 18, 6}, {12, -18, 6}, {0, 0, 0}, {0, -5, 5}, {-5, 0, 5},
		{math.MinInt, 0, 0}, {0, math.MinInt, 0}, {math.MinInt, math.MinInt, 0},
		{math.MinInt, 1 << 62, 1 << 62}, {math.MinInt, -1, 1},
	} {
		if got := arith.Gcd(c.a, c.b); got != c.want {
			t.Errorf("Gcd(%d, %d) = %d, not %d", c.a, c.b, got, c.want)
		}
	}
}

func TestUp(t *testing.T) {
	for _, a := range edges() {
		for _, b := range edges() {
			want := new(big.Int).Add(wide(a), wide(b))
			if a < 0 || b < 0 {
				want.SetInt64(0)
			} else if !want.IsInt64() {
				want.SetInt64(math.MaxInt)
			}
			if got := arith.Up(a, b); int64(got) != want.Int64() {
				t.Errorf("Up(%d, %d) = %d, not %v", a, b, got, want)
			}
		}
	}
	if arith.Up(math.MaxInt, -1) != 0 || arith.Up(math.MaxInt, 1) != math.MaxInt || arith.Up(math.MaxInt-1, 1) != math.MaxInt {
		t.Error("at the ends")
	}
}
