package order_test

import (
	"cmp"
	"fmt"
	"math"
	"math/big"
	"math/rand"
	"slices"
	"testing"

	"kurgan/api"
	"kurgan/order"
)

func rising(n int) []int {
	l := []int{}
	for k := range n {
		l = append(l, k)
	}
	return l
}

func falling(n int) []int {
	l := rising(n)
	slices.Reverse(l)
	return l
}

// permutations: all of a length, in their order, since each is put in by its first number.
func permutations(n int) [][]int {
	if n == 0 {
		return [][]int{{}}
	}
	var all [][]int
	for first := range n {
		for _, rest := range permutations(n - 1) {
			p := []int{first}
			for _, k := range rest {
				if k >= first {
					k++
				}
				p = append(p, k)
			}
			all = append(all, p)
		}
	}
	return all
}

// lists: all lists of so many numbers out of those.
func lists(n int, numbers ...int) [][]int {
	if n == 0 {
		return [][]int{{}}
	}
	var out [][]int
	for _, l := range lists(n-1, numbers...) {
		for _, k := range numbers {
			out = append(out, append(slices.Clone(l), k))
		}
	}
	return out
}

// ahead reports whether item a stands ahead of item b, exactly.
func ahead(value, weight []int, a, b int) bool {
	if weight[a] == 0 || weight[b] == 0 {
		return weight[a] == 0 && (weight[b] != 0 || a < b)
	}
	product := func(m, n int) *big.Int { return new(big.Int).Mul(big.NewInt(int64(m)), big.NewInt(int64(n))) }
	c := product(value[a], weight[b]).Cmp(product(value[b], weight[a]))
	return c > 0 || c == 0 && a < b
}

// byCount puts each index where as many as are ahead of it say.
func byCount(n int, ahead func(a, b int) bool) []int {
	l := make([]int, n)
	for b := range n {
		place := 0
		for a := range n {
			if a != b && ahead(a, b) {
				place++
			}
		}
		l[place] = b
	}
	return l
}

func holdRatio(t *testing.T, value, weight []int) {
	t.Helper()
	before := fmt.Sprint(value, weight)
	got, e := order.ByRatio(value, weight)
	want := byCount(len(value), func(a, b int) bool { return ahead(value, weight, a, b) })
	if e != api.OK || !slices.Equal(got, want) {
		t.Fatalf("ByRatio(%v, %v) = %v, %d, not %v", value, weight, got, e, want)
	}
	if after := fmt.Sprint(value, weight); after != before {
		t.Fatalf("ByRatio changed %s into %s", before, after)
	}
}

func TestByRatio(t *testing.T) {
	if l, e := order.ByRatio([]int{1, 6, 0}, []int{1, 2, 0}); e != api.OK || !slices.Equal(l, []int{2, 1, 0}) {
		t.Error("the document's example:", l, e)
	}
	for n := range 4 {
		for _, value := range lists(n, 0, 1, 2, 3) {
			for _, weight := range lists(n, 0, 1, 2, 4) {
				holdRatio(t, value, weight)
			}
		}
	}
	// Ratios that floats and products of 64 bits can't tell apart.
	sharp := []int{0, 1, 2, 3, 1 << 31, 1<<31 - 1, 1<<31 - 2, 1 << 32, 1<<32 + 1, 1 << 53, 1<<53 + 1, 1 << 62, math.MaxInt - 2, math.MaxInt - 1, math.MaxInt}
	for _, value := range lists(2, sharp...) {
		for _, weight := range lists(2, sharp...) {
			holdRatio(t, value, weight)
		}
	}
	r := rand.New(rand.NewSource(9))
	for range 2000 {
		n := r.Intn(65)
		value, weight := []int{}, []int{}
		top := []int{2, 5, 100, 1 << 31}[r.Intn(4)]
		for range n {
			value, weight = append(value, r.Intn(top)), append(weight, r.Intn(top))
		}
		holdRatio(t, value, weight)
	}
	// Equal ratios of different numbers, and as many items as there may be.
	value, weight := []int{}, []int{}
	for k := range 64 {
		value, weight = append(value, 3*(64-k)), append(weight, 2*(64-k))
	}
	if l, e := order.ByRatio(value, weight); e != api.OK || !slices.Equal(l, rising(64)) {
		t.Error("equal ratios:", l, e)
	}
	if l, e := order.ByRatio(slices.Repeat([]int{math.MaxInt}, 64), slices.Repeat([]int{math.MaxInt}, 64)); e != api.OK || !slices.Equal(l, rising(64)) {
		t.Error("the greatest numbers:", l, e)
	}
	if l, e := order.ByRatio(rising(64), make([]int, 64)); e != api.OK || !slices.Equal(l, rising(64)) {
		t.Error("no weight at all:", l, e)
	}
}

func TestByRatioErrors(t *testing.T) {
	for _, c := range []struct {
		value, weight []int
		e             api.Errno
	}{
		{nil, nil, api.OK}, {nil, []int{}, api.OK}, {[]int{}, nil, api.OK},
		{nil, []int{1}, api.ErrArg}, {[]int{1}, nil, api.ErrArg},
		{[]int{1, 2}, []int{1}, api.ErrArg}, {[]int{1}, []int{1, 2}, api.ErrArg},
		{[]int{-1}, []int{1}, api.ErrArg}, {[]int{1}, []int{-1}, api.ErrArg}, {[]int{-1}, []int{0}, api.ErrArg},
		{[]int{0, 1, math.MinInt}, []int{0, 0, 0}, api.ErrArg}, {[]int{0, 1, 2}, []int{0, 1, math.MinInt}, api.ErrArg},
		{make([]int, 64), make([]int, 64), api.OK}, {make([]int, 65), make([]int, 65), api.ErrArg},
		{make([]int, 64), make([]int, 65), api.ErrArg}, {make([]int, 65), make([]int, 64), api.ErrArg},
		{make([]int, 5000), make([]int, 5000), api.ErrArg},
	} {
		l, e := order.ByRatio(c.value, c.weight)
		if e != c.e || e == api.OK && len(l) != len(c.value) || e != api.OK && len(l) != 0 {
			t.Errorf("ByRatio(%v, %v) = %v, %d", c.value, c.weight, l, e)
		}
	}
}

func holdKeys(t *testing.T, keys []int) {
	t.Helper()
	before := slices.Clone(keys)
	got := order.ByKey(keys)
	want := byCount(len(keys), func(a, b int) bool { return keys[a] < keys[b] || keys[a] == keys[b] && a < b })
	if !slices.Equal(got, want) {
		t.Fatalf("ByKey(%v) = %v, not %v", keys, got, want)
	}
	if !slices.Equal(keys, before) {
		t.Fatalf("ByKey changed %v into %v", before, keys)
	}
}

func TestByKey(t *testing.T) {
	if l := order.ByKey(nil); len(l) != 0 {
		t.Error(l)
	}
	for n := range 5 {
		for _, keys := range lists(n, math.MinInt, -1, 0, 2, math.MaxInt) { // whose differences are no ints
			holdKeys(t, keys)
		}
	}
	r := rand.New(rand.NewSource(10))
	for range 300 {
		keys := []int{}
		top := 1 + r.Intn(300)
		for range r.Intn(200) { // there is no limit to the keys, and above a dozen sorts tend to change their ways
			keys = append(keys, r.Intn(top)-top/2)
		}
		holdKeys(t, keys)
	}
	keys := make([]int, 100000)
	for k := range keys {
		keys[k] = k % 3
	}
	l := order.ByKey(keys)
	if !slices.IsSortedFunc(l, func(a, b int) int { return cmp.Or(cmp.Compare(keys[a], keys[b]), cmp.Compare(a, b)) }) || !order.Is(l) {
		t.Error("many keys")
	}
}

// isPermutation counts each number.
func isPermutation(p []int) bool {
	for n := range p {
		times := 0
		for _, m := range p {
			if m == n {
				times++
			}
		}
		if times != 1 {
			return false
		}
	}
	return true
}

func TestAllShortLists(t *testing.T) {
	for n := range 6 {
		for _, p := range lists(n, -1, 0, 1, 2, 3, 4, 5) {
			is := isPermutation(p)
			if order.Is(p) != is {
				t.Fatalf("Is(%v) = %t", p, !is)
			}
			if is {
				continue
			}
			if q, e := order.Inverse(p); len(q) != 0 || e != api.ErrArg {
				t.Fatalf("Inverse(%v) = %v, %d", p, q, e)
			}
			if q, e := order.Next(p); len(q) != 0 || e != api.ErrArg {
				t.Fatalf("Next(%v) = %v, %d", p, q, e)
			}
			if n, e := order.Rank(p); n != 0 || e != api.ErrArg {
				t.Fatalf("Rank(%v) = %d, %d", p, n, e)
			}
			for _, q := range [][]int{p, rising(len(p))} {
				if l, e := order.Then(p, q); len(l) != 0 || e != api.ErrArg {
					t.Fatalf("Then(%v, %v) = %v, %d", p, q, l, e)
				}
				if l, e := order.Then(q, p); len(l) != 0 || e != api.ErrArg {
					t.Fatalf("Then(%v, %v) = %v, %d", q, p, l, e)
				}
			}
		}
	}
}

func TestIs(t *testing.T) {
	for _, p := range [][]int{nil, {}, {0}, {1, 0}, rising(200), falling(1000)} { // longer than a Set can hold
		if !order.Is(p) {
			t.Error(p)
		}
	}
	for _, p := range [][]int{{1}, {-1}, {0, 0}, {0, 2}, {math.MinInt, 0}, {0, math.MaxInt}, {0, 1 << 32}, append(rising(199), 198), append(rising(199), 200)} {
		if order.Is(p) {
			t.Error(p)
		}
	}
}

// All permutations up to length 7, in their order, against each function.
func TestAllPermutations(t *testing.T) {
	for n := range 8 {
		all := permutations(n)
		for rank, p := range all {
			before := slices.Clone(p)
			if !order.Is(p) {
				t.Fatalf("Is(%v)", p)
			}
			if k, e := order.Rank(p); k != rank || e != api.OK {
				t.Fatalf("Rank(%v) = %d, %d, not %d", p, k, e, rank)
			}
			if q, e := order.Nth(n, rank); !slices.Equal(q, p) || e != api.OK {
				t.Fatalf("Nth(%d, %d) = %v, %d, not %v", n, rank, q, e, p)
			}
			next, e := order.Next(p)
			if rank+1 < len(all) {
				if !slices.Equal(next, all[rank+1]) || e != api.OK {
					t.Fatalf("Next(%v) = %v, %d, not %v", p, next, e, all[rank+1])
				}
			} else if len(next) != 0 || e != api.ErrMiss {
				t.Fatalf("Next(%v) = %v, %d", p, next, e)
			}
			q, e := order.Inverse(p)
			if len(q) != n || e != api.OK {
				t.Fatalf("Inverse(%v) = %v, %d", p, q, e)
			}
			for k := range p {
				if q[p[k]] != k {
					t.Fatalf("Inverse(%v) = %v", p, q)
				}
			}
			if !slices.Equal(p, before) {
				t.Fatalf("%v became %v", before, p)
			}
		}
		for _, rank := range []int{math.MinInt, -len(all), -1, len(all), len(all) + 1, 2 * len(all), math.MaxInt} {
			if q, e := order.Nth(n, rank); len(q) != 0 || e != api.ErrMiss {
				t.Errorf("Nth(%d, %d) = %v, %d", n, rank, q, e)
			}
		}
	}
}

func TestThen(t *testing.T) {
	for n := range 5 {
		for _, p := range permutations(n) {
			for _, q := range permutations(n) {
				l, e := order.Then(p, q)
				if e != api.OK || len(l) != n {
					t.Fatalf("Then(%v, %v) = %v, %d", p, q, l, e)
				}
				for k := range l {
					if l[k] != p[q[k]] {
						t.Fatalf("Then(%v, %v) = %v", p, q, l)
					}
				}
			}
		}
	}
	if l, e := order.Then([]int{1, 2, 0}, []int{0, 2, 1}); e != api.OK || !slices.Equal(l, []int{1, 0, 2}) {
		t.Error(l, e)
	}
	for _, c := range [][2][]int{{nil, {0}}, {{0}, nil}, {{0, 1}, {0, 1, 2}}, {{0, 1, 2}, {1, 0}}} { // each a permutation
		if l, e := order.Then(c[0], c[1]); len(l) != 0 || e != api.ErrArg {
			t.Errorf("Then(%v, %v) = %v, %d", c[0], c[1], l, e)
		}
	}
}

func TestNext(t *testing.T) {
	if l, e := order.Next([]int{0, 2, 1}); e != api.OK || !slices.Equal(l, []int{1, 0, 2}) {
		t.Error("the document's example:", l, e)
	}
	for _, p := range [][]int{nil, {}, {0}, {1, 0}, falling(21), falling(500)} { // the last ones
		if l, e := order.Next(p); len(l) != 0 || e != api.ErrMiss {
			t.Errorf("Next(%v) = %v, %d", p, l, e)
		}
	}
	// Longer than what Rank takes: the first half stays, and the rest falls.
	p := append(rising(100), falling(200)[:100]...)
	want := append(append(rising(99), 100, 99), rising(200)[101:]...)
	if l, e := order.Next(p); e != api.OK || !slices.Equal(l, want) {
		t.Errorf("Next(%v) = %v, %d", p, l, e)
	}
}

func TestRankAtItsLimit(t *testing.T) {
	const orders = 2432902008176640000 // of 20 numbers
	for _, c := range []struct {
		p    []int
		rank int
		e    api.Errno
	}{
		{nil, 0, api.OK}, {[]int{}, 0, api.OK}, {[]int{0}, 0, api.OK}, {[]int{2, 1, 0}, 5, api.OK},
		{rising(20), 0, api.OK}, {falling(20), orders - 1, api.OK}, {append([]int{19}, rising(19)...), orders / 20 * 19, api.OK},
		{rising(21), 0, api.ErrBig}, {falling(21), 0, api.ErrBig}, {falling(300), 0, api.ErrBig},
		{append(rising(20), 19), 0, api.ErrArg}, {slices.Repeat([]int{0}, 21), 0, api.ErrArg}, {append(rising(299), 300), 0, api.ErrArg},
	} {
		if n, e := order.Rank(c.p); n != c.rank || e != c.e {
			t.Errorf("Rank(%v) = %d, %d", c.p, n, e)
		}
	}
	for _, c := range []struct {
		n, rank int
		want    []int
		e       api.Errno
	}{
		{0, 0, nil, api.OK}, {1, 0, []int{0}, api.OK}, {0, 1, nil, api.ErrMiss}, {1, 1, nil, api.ErrMiss}, {1, -1, nil, api.ErrMiss},
		{20, 0, rising(20), api.OK}, {20, orders - 1, falling(20), api.OK}, {20, orders, nil, api.ErrMiss}, {20, math.MaxInt, nil, api.ErrMiss}, {20, -1, nil, api.ErrMiss},
		{21, 0, nil, api.ErrArg}, {21, -1, nil, api.ErrArg}, {-1, 0, nil, api.ErrArg}, {-1, -1, nil, api.ErrArg}, {math.MinInt, 0, nil, api.ErrArg}, {math.MaxInt, 0, nil, api.ErrArg},
	} {
		if p, e := order.Nth(c.n, c.rank); !slices.Equal(p, c.want) || e != c.e {
			t.Errorf("Nth(%d, %d) = %v, %d", c.n, c.rank, p, e)
		}
	}
	r := rand.New(rand.NewSource(11))
	for range 2000 {
		p := r.Perm(r.Intn(21))
		rank, e := order.Rank(p)
		q, e2 := order.Nth(len(p), rank)
		if e != api.OK || e2 != api.OK || !slices.Equal(p, q) {
			t.Fatalf("Rank(%v) = %d, %d, of which Nth is %v, %d", p, rank, e, q, e2)
		}
		next, e := order.Next(p)
		if after, _ := order.Rank(next); e == api.OK && after != rank+1 {
			t.Fatalf("Next(%v) = %v: the ranks are %d and %d", p, next, rank, after)
		}
	}
}

// Neither lists nor what stands behind them are changed, and each answer is new.
func TestListsOfTheirOwn(t *testing.T) {
	p, q := append(make([]int, 0, 6), 2, 0, 1), append(make([]int, 0, 6), 1, 0, 2)
	calls := map[string]func() []int{
		"ByRatio": func() []int { l, _ := order.ByRatio(p, q); return l },
		"ByKey":   func() []int { return order.ByKey(p) },
		"Inverse": func() []int { l, _ := order.Inverse(p); return l },
		"Then":    func() []int { l, _ := order.Then(p, q); return l },
		"Next":    func() []int { l, _ := order.Next(p); return l },
		"Nth":     func() []int { l, _ := order.Nth(3, 2); return l },
		"Rank":    func() []int { order.Rank(p); order.Is(p); return nil },
	}
	before := fmt.Sprint(p[:6], q[:6])
	for name, call := range calls {
		l := call()
		want := slices.Clone(l)
		for k := range l[:cap(l)] {
			l[:cap(l)][k] = -7
		}
		if after := fmt.Sprint(p[:6], q[:6]); after != before {
			t.Errorf("%s: %s became %s", name, before, after)
		}
		if again := call(); !slices.Equal(again, want) {
			t.Errorf("%s hands out one list twice", name)
		}
	}
}
