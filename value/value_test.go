package value_test

import (
	"fmt"
	"math"
	"math/rand"
	"slices"
	"testing"

	"kurgan/api"
	"kurgan/inst"
	"kurgan/value"
)

func list(n int, number func(k int) int) []int {
	l := []int{}
	for k := range n {
		l = append(l, number(k))
	}
	return l
}

func knapsack(room int, weight, worth []int) api.Instance {
	return api.Instance{Kind: 1, N: len(weight), Cap: room, Weight: weight, Value: worth}
}

func square(kind int, rows ...[]int) api.Instance {
	return api.Instance{Kind: kind, N: len(rows), Cost: rows}
}

// all is a problem of a kind and a size whose numbers are what number draws.
func all(kind, n, room int, number func() int) api.Instance {
	if kind == 1 {
		return knapsack(room, list(n, func(int) int { return number() }), list(n, func(int) int { return number() }))
	}
	var rows [][]int
	for a := range n {
		rows = append(rows, list(n, func(b int) int {
			if kind == 3 && a == b {
				return 0
			}
			return number()
		}))
	}
	return square(kind, rows...)
}

// lists: all lists of so many numbers out of those.
func lists(n int, numbers ...int) [][]int {
	if n == 0 {
		return [][]int{{}}
	}
	var out [][]int
	for _, l := range lists(n-1, numbers...) {
		for _, k := range numbers {
			out = append(out, append(slices.Clone(l), k))
		}
	}
	return out
}

// want: cost, value and error of a list, for a valid problem, by the chapter's words.
func want(i api.Instance, x []int) (cost, worth int, e api.Errno) {
	if len(x) != i.N {
		return 0, 0, api.ErrArg
	}
	if i.Kind == 1 {
		weight := 0
		for k, n := range x {
			switch n {
			case 0:
				cost += i.Value[k]
			case 1:
				worth += i.Value[k]
				weight += i.Weight[k]
			default:
				return 0, 0, api.ErrArg
			}
		}
		if weight > i.Cap {
			return 0, 0, api.ErrFull
		}
		return cost, worth, api.OK
	}
	for n := range i.N {
		times := 0
		for _, m := range x {
			if m == n {
				times++
			}
		}
		if times != 1 {
			return 0, 0, api.ErrArg
		}
	}
	if i.Kind == 3 && x[0] != 0 {
		return 0, 0, api.ErrArg
	}
	for k := range x {
		if i.Kind == 2 {
			cost += i.Cost[k][x[k]]
		} else {
			cost += i.Cost[x[k]][x[(k+1)%len(x)]]
		}
	}
	return cost, cost, api.OK
}

func hold(t *testing.T, i api.Instance, x []int) {
	t.Helper()
	cost, worth, e := want(i, x)
	if got, err := value.Cost(i, x); got != cost || err != e {
		t.Fatalf("Cost(%v, %v) = %d, %d, not %d, %d", i, x, got, err, cost, e)
	}
	if got, err := value.Value(i, x); got != worth || err != e {
		t.Fatalf("Value(%v, %v) = %d, %d, not %d, %d", i, x, got, err, worth, e)
	}
	if e != api.OK {
		return
	}
	if got := value.Of(i, cost); got != worth {
		t.Fatalf("Of(%v, %d) = %d, not %d", i, cost, got, worth)
	}
	if cost < 0 || cost > value.Total(i) {
		t.Fatalf("%v costs %d, Total(%v) = %d", x, cost, i, value.Total(i))
	}
}

func TestAllShortLists(t *testing.T) {
	r := rand.New(rand.NewSource(8))
	for kind := 1; kind <= 3; kind++ {
		for n := 1; n <= 4; n++ {
			for range 6 {
				i := all(kind, n, r.Intn(12), func() int { return r.Intn(6) })
				for length := range n + 2 {
					for _, x := range lists(length, -1, 0, 1, 2, 3, 4) {
						hold(t, i, x)
					}
				}
				hold(t, i, nil)
			}
		}
	}
}

// Numbers that fall on others, or on none, if only their lowest bits are looked at.
func TestNumbersFarAway(t *testing.T) {
	for kind := 1; kind <= 3; kind++ {
		i := all(kind, 3, 100, func() int { return 5 })
		for at := range 3 {
			for _, n := range []int{math.MinInt, math.MinInt + 1, -128, -64, -1, 3, 63, 64, 65, 127, 128, 129, 256, 1 << 32, 1<<32 + 1, math.MaxInt} {
				x := []int{0, 1, 2}
				if kind == 1 {
					x[2] = 1
				}
				x[at] = n
				if cost, e := value.Cost(i, x); cost != 0 || e != api.ErrArg {
					t.Errorf("kind %d, %v: %d, %d", kind, x, cost, e)
				}
			}
		}
	}
}

func TestExamples(t *testing.T) {
	tour := square(3, []int{0, 1, 10}, []int{100, 0, 1000}, []int{10000, 100000, 0})
	for _, c := range []struct {
		i           api.Instance
		x           []int
		cost, worth int
		e           api.Errno
	}{
		{tour, []int{0, 2, 1}, 100110, 100110, api.OK}, // the document's example
		{tour, []int{0, 1, 2}, 11001, 11001, api.OK},
		{tour, []int{1, 2, 0}, 0, 0, api.ErrArg}, // a round trip, but not from city 0
		{square(3, []int{0}), []int{0}, 0, 0, api.OK},
		{square(3, []int{0, 7}, []int{5, 0}), []int{0, 1}, 12, 12, api.OK},
		{square(2, []int{7}), []int{0}, 7, 7, api.OK},
		{square(2, []int{1, 2}, []int{3, 9}), []int{1, 0}, 5, 5, api.OK},
		{square(2, []int{1, 2}, []int{3, 9}), []int{1, 1}, 0, 0, api.ErrArg},
		{knapsack(5, []int{3, 3}, []int{4, 6}), []int{1, 0}, 6, 4, api.OK},
		{knapsack(5, []int{3, 3}, []int{4, 6}), []int{1, 1}, 0, 0, api.ErrFull},
		{knapsack(6, []int{3, 3}, []int{4, 6}), []int{1, 1}, 0, 10, api.OK},
		{knapsack(0, []int{0, 3}, []int{4, 6}), []int{1, 0}, 6, 4, api.OK},
		{knapsack(0, []int{9, 9, 9}, []int{4, 6, 5}), []int{1, 1, 2}, 0, 0, api.ErrArg}, // too heavy as well
		{knapsack(0, []int{9, 9}, []int{4, 6}), []int{1}, 0, 0, api.ErrArg},
	} {
		if cost, e := value.Cost(c.i, c.x); cost != c.cost || e != c.e {
			t.Errorf("Cost(%v, %v) = %d, %d", c.i, c.x, cost, e)
		}
		if worth, e := value.Value(c.i, c.x); worth != c.worth || e != c.e {
			t.Errorf("Value(%v, %v) = %d, %d", c.i, c.x, worth, e)
		}
	}
}

// The most items and rows there may be, with the greatest numbers, and one more.
func TestLimits(t *testing.T) {
	const big = math.MaxInt32
	greatest := func() int { return big }
	for n := 62; n <= 65; n++ {
		i := all(1, n, big, greatest)
		none, one, every := make([]int, n), make([]int, n), slices.Repeat([]int{1}, n)
		one[n-1] = 1
		total := n * big
		errors := []api.Errno{api.OK, api.OK, api.ErrFull}
		costs := []int{total, total - big, 0}
		values := []int{0, big, 0}
		if n > 64 {
			total, errors, costs, values = 0, slices.Repeat([]api.Errno{api.ErrBig}, 3), make([]int, 3), make([]int, 3)
		}
		for k, x := range [][]int{none, one, every} {
			cost, e := value.Cost(i, x)
			worth, e2 := value.Value(i, x)
			if cost != costs[k] || worth != values[k] || e != errors[k] || e2 != e {
				t.Errorf("%d items, %v: %d, %d, %d, %d", n, x, cost, worth, e, e2)
			}
		}
		i.Weight = make([]int, n)
		i.Cap = 0
		if worth, e := value.Value(i, every); worth != total || n <= 64 && e != api.OK || n > 64 && e != api.ErrBig {
			t.Errorf("%d items without weight: %d, %d", n, worth, e)
		}
		if got := value.Total(i); got != total {
			t.Errorf("%d items: Total %d", n, got)
		}
	}
	for kind := 2; kind <= 3; kind++ {
		for n := 22; n <= 25; n++ {
			i := all(kind, n, 0, greatest)
			cost, e := n*big, api.OK
			if n > 24 {
				cost, e = 0, api.ErrBig
			}
			x := list(n, func(k int) int { return (n - k) % n })
			if got, err := value.Cost(i, x); got != cost || err != e {
				t.Errorf("kind %d, %d rows: %d, %d", kind, n, got, err)
			}
			if got := value.Total(i); got != cost {
				t.Errorf("kind %d, %d rows: Total %d", kind, n, got)
			}
			if got, err := value.Cost(i, x[:n-1]); got != 0 || e == api.OK && err != api.ErrArg || e != api.OK && err != e {
				t.Errorf("kind %d, %d rows, a number too few: %d, %d", kind, n, got, err)
			}
		}
	}
}

// wrong: a problem for each error of inst.Check, and for each kind.
func wrong() []api.Instance {
	return []api.Instance{
		{}, {Kind: 4, N: 1, Value: []int{3}}, {Kind: -1}, {Kind: math.MinInt, N: 1},
		{Kind: 1}, {Kind: 2, N: -1}, {Kind: 3, N: math.MinInt},
		{Kind: 1, N: 65}, {Kind: 2, N: 25}, {Kind: 3, N: math.MaxInt},
		{Kind: 1, N: 1}, {Kind: 1, N: 2, Weight: []int{1, 1}, Value: []int{1}}, {Kind: 1, N: 1, Weight: []int{1}, Value: []int{1}, Cost: [][]int{{0}}},
		{Kind: 2, N: 2, Cost: [][]int{{1, 2}, {3}}}, {Kind: 2, N: 1}, {Kind: 3, N: 1, Cost: [][]int{{}}}, {Kind: 3, N: 1, Cap: 1, Cost: [][]int{{0}}},
		{Kind: 2, N: 1, Cost: [][]int{{1}}, Value: []int{1}},
		knapsack(-1, []int{1}, []int{1}), knapsack(1, []int{-1}, []int{1}), knapsack(1, []int{1}, []int{-1}), square(2, []int{-1}), square(3, []int{-1}),
		knapsack(1<<31, []int{1}, []int{1}), knapsack(1, []int{1 << 31}, []int{1}), knapsack(1, []int{1}, []int{math.MaxInt}), square(2, []int{1 << 31}),
		square(3, []int{1}), square(3, []int{0, 1}, []int{1, 5}),
	}
}

// The errors of inst.Check come ahead of those of the list, whether the list is one or none.
func TestWrongProblems(t *testing.T) {
	met := map[api.Errno]int{}
	for _, i := range wrong() {
		e := inst.Check(i)
		met[e]++
		for _, x := range [][]int{nil, {}, {0}, {1}, {7}, {0, 1}, {1, 1}, {-1, 9}, make([]int, 65)} {
			if cost, err := value.Cost(i, x); cost != 0 || err != e {
				t.Errorf("Cost(%v, %v) = %d, %d, not %d", i, x, cost, err, e)
			}
			if worth, err := value.Value(i, x); worth != 0 || err != e {
				t.Errorf("Value(%v, %v) = %d, %d, not %d", i, x, worth, err, e)
			}
		}
		if x := value.Plain(i); len(x) != 0 {
			t.Errorf("Plain(%v) = %v", i, x)
		}
		if n := value.Total(i); n != 0 {
			t.Errorf("Total(%v) = %d", i, n)
		}
		want := 5
		if i.Kind == 1 {
			want = -5
		}
		if n := value.Of(i, 5); n != want {
			t.Errorf("Of(%v, 5) = %d", i, n)
		}
	}
	for _, e := range []api.Errno{api.ErrKind, api.ErrArg, api.ErrBig, api.ErrForm} {
		if met[e] == 0 {
			t.Error("no problem is wrong in this way:", e)
		}
	}
	if met[api.OK] != 0 {
		t.Error("a valid problem among the wrong ones")
	}
}

func TestOf(t *testing.T) {
	items := knapsack(5, []int{1, 9}, []int{4, 6})
	for _, cost := range []int{-3, 0, 4, 10, 11, math.MaxInt} {
		if n := value.Of(items, cost); n != 10-cost {
			t.Errorf("Of(%d) = %d", cost, n)
		}
	}
	for _, i := range []api.Instance{square(2, []int{7}), square(3, []int{0}), {}, {Kind: 9}} {
		for _, cost := range []int{math.MinInt, -3, 0, 7, math.MaxInt} {
			if n := value.Of(i, cost); n != cost {
				t.Errorf("Of(%v, %d) = %d", i, cost, n)
			}
		}
	}
	value.Of(items, math.MinInt) // must not panic; what it answers is no value of any solution
}

func TestPlain(t *testing.T) {
	for kind := 1; kind <= 3; kind++ {
		most := 24
		if kind == 1 {
			most = 64
		}
		for n := 1; n <= most; n++ {
			i := all(kind, n, 0, func() int { return 9 })
			x := value.Plain(i)
			right := list(n, func(k int) int { return k })
			if kind == 1 {
				right = make([]int, n)
			}
			if !slices.Equal(x, right) {
				t.Errorf("Plain of kind %d, %d: %v", kind, n, x)
			}
			hold(t, i, x)
			if _, e := value.Cost(i, x); e != api.OK {
				t.Errorf("Plain of kind %d, %d is no solution: %d", kind, n, e)
			}
			x[0] = 77
			if again := value.Plain(i); !slices.Equal(again, right) {
				t.Errorf("Plain of kind %d, %d hands out one list twice", kind, n)
			}
		}
	}
}

func TestTotal(t *testing.T) {
	for _, c := range []struct {
		i    api.Instance
		want int
	}{
		{knapsack(0, []int{9, 9, 9}, []int{4, 0, 6}), 10},
		{knapsack(9, []int{1, 1}, []int{0, 0}), 0},
		{square(2, []int{1, 2}, []int{9, 3}), 11},
		{square(2, []int{0}), 0},
		{square(3, []int{0}), 0},
		{square(3, []int{0, 5, 2}, []int{1, 0, 1}, []int{7, 7, 0}), 13},
	} {
		if n := value.Total(c.i); n != c.want {
			t.Errorf("Total(%v) = %d, not %d", c.i, n, c.want)
		}
	}
}

// Neither lists nor what stands behind them are changed, and an answer hangs on nothing that was handed in.
func TestArgumentsStay(t *testing.T) {
	r := rand.New(rand.NewSource(9))
	for kind := 1; kind <= 3; kind++ {
		for range 100 {
			i := all(kind, 4, 9, func() int { return r.Intn(9) })
			x := append(make([]int, 0, 7), r.Perm(4)...)
			for k := range x {
				if kind == 1 {
					x[k] %= 2
				}
			}
			i.Weight, i.Value, i.Cost = slices.Grow(i.Weight, 2), slices.Grow(i.Value, 2), slices.Grow(i.Cost, 2)
			tell := func() string {
				return fmt.Sprint(i, x[:7], i.Weight[:cap(i.Weight)], i.Value[:cap(i.Value)], i.Cost[:cap(i.Cost)])
			}
			before := tell()
			value.Cost(i, x)
			value.Value(i, x)
			value.Of(i, 3)
			value.Plain(i)
			value.Total(i)
			if after := tell(); after != before {
				t.Fatalf("%s became %s", before, after)
			}
		}
	}
}
