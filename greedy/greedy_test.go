package greedy_test

import (
	"fmt"
	"math"
	"math/rand"
	"slices"
	"testing"

	"kurgan/api"
	"kurgan/greedy"
	"kurgan/inst"
	"kurgan/value"
)

func knapsack(room int, weight, worth []int) api.Instance {
	return api.Instance{Kind: 1, N: len(weight), Cap: room, Weight: weight, Value: worth}
}

func square(kind int, rows ...[]int) api.Instance {
	return api.Instance{Kind: kind, N: len(rows), Cost: rows}
}

// draw is a valid problem with numbers below top.
func draw(r *rand.Rand, kind, n, top int) api.Instance {
	numbers := func() []int {
		l := []int{}
		for range n {
			l = append(l, r.Intn(top))
		}
		return l
	}
	if kind == 1 {
		return knapsack(r.Intn(min(n*top/2+1, 1<<31)), numbers(), numbers())
	}
	var rows [][]int
	for a := range n {
		row := numbers()
		if kind == 3 {
			row[a] = 0
		}
		rows = append(rows, row)
	}
	return square(kind, rows...)
}

func shuffled(r *rand.Rand, i api.Instance) []int {
	if i.Kind == 2 {
		return r.Perm(i.N)
	}
	if i.Kind == 3 {
		x := []int{0}
		for _, k := range r.Perm(i.N - 1) {
			x = append(x, k+1)
		}
		return x
	}
	x, room := make([]int, i.N), i.Cap
	for _, k := range r.Perm(i.N) {
		if i.Weight[k] <= room && r.Intn(3) > 0 {
			x[k] = 1
			room -= i.Weight[k]
		}
	}
	return x
}

// costOf: what a list costs that is a solution but for the weights; -1: too heavy.
func costOf(i api.Instance, x []int) int {
	cost, weight := 0, 0
	for k := range x {
		switch {
		case i.Kind == 2:
			cost += i.Cost[k][x[k]]
		case i.Kind == 3:
			cost += i.Cost[x[k]][x[(k+1)%len(x)]]
		case x[k] == 1:
			weight += i.Weight[k]
		default:
			cost += i.Value[k]
		}
	}
	if weight > i.Cap {
		return -1
	}
	return cost
}

// first is the chapter's First, for a valid problem: each time the best of all that may come next.
func first(i api.Instance) []int {
	if i.Kind == 1 {
		return firstItems(i)
	}
	var x []int
	if i.Kind == 3 {
		x = []int{0}
	}
	for len(x) < i.N {
		row := len(x)
		if i.Kind == 3 {
			row = x[len(x)-1]
		}
		best := -1
		for c := i.N - 1; c >= 0; c-- {
			if !slices.Contains(x, c) && (best < 0 || i.Cost[row][c] <= i.Cost[row][best]) {
				best = c
			}
		}
		x = append(x, best)
	}
	return x
}

func firstItems(i api.Instance) []int {
	x, room, worth := make([]int, i.N), i.Cap, 0
	seen := make([]bool, i.N)
	for range i.N {
		best := -1
		for k := range i.N {
			if seen[k] {
				continue
			}
			switch {
			case best < 0,
				i.Weight[best] > 0 && i.Weight[k] == 0,
				i.Weight[best] > 0 && i.Value[k]*i.Weight[best] > i.Value[best]*i.Weight[k]: // of 62 bits
				best = k
			}
		}
		seen[best] = true
		if i.Weight[best] <= room {
			x[best] = 1
			room -= i.Weight[best]
			worth += i.Value[best]
		}
	}
	alone := -1
	for k := i.N - 1; k >= 0; k-- {
		if i.Weight[k] <= i.Cap && (alone < 0 || i.Value[k] >= i.Value[alone]) {
			alone = k
		}
	}
	if alone >= 0 && i.Value[alone] > worth {
		x = make([]int, i.N)
		x[alone] = 1
	}
	return x
}

// better is the chapter's Better, in at most so many rounds, for a solution; and how many rounds changed something.
func better(i api.Instance, x []int, most int) ([]int, int) {
	x = slices.Clone(x)
	for done := range most {
		changed := false
		for a := range x {
			for b := a + 1; b < len(x); b++ {
				y := slices.Clone(x)
				if i.Kind == 3 {
					if a == 0 {
						continue
					}
					for k := a; k <= b; k++ {
						y[k] = x[a+b-k]
					}
				} else {
					y[a], y[b] = x[b], x[a]
				}
				if cost := costOf(i, y); cost >= 0 && cost < costOf(i, x) {
					x, changed = y, true
				}
			}
		}
		if !changed {
			return x, done
		}
	}
	return x, most
}

func holdFirst(t *testing.T, i api.Instance) {
	t.Helper()
	x, e := greedy.First(i)
	if want := first(i); e != api.OK || !slices.Equal(x, want) {
		t.Fatalf("First(%v) = %v, %d, not %v", i, x, e, want)
	}
	cost, e := value.Cost(i, x)
	if e != api.OK {
		t.Fatalf("First(%v) = %v is no solution: %d", i, x, e)
	}
	y, least, e := greedy.Start(i)
	want, _ := better(i, x, 50)
	if e != api.OK || !slices.Equal(y, want) || least != costOf(i, want) || least > cost {
		t.Fatalf("Start(%v) = %v, %d, %d, not %v, %d", i, y, least, e, want, costOf(i, want))
	}
	z, e := greedy.Better(i, x)
	if e != api.OK || !slices.Equal(z, y) {
		t.Fatalf("Start(%v) = %v, but Better of First is %v, %d", i, y, z, e)
	}
	holdBetter(t, i, x)
}

func holdBetter(t *testing.T, i api.Instance, x []int) {
	t.Helper()
	before := slices.Clone(x)
	y, e := greedy.Better(i, x)
	if want, _ := better(i, x, 50); e != api.OK || !slices.Equal(y, want) {
		t.Fatalf("Better(%v, %v) = %v, %d, not %v", i, x, y, e, want)
	}
	cost, e := value.Cost(i, y)
	if e != api.OK || cost > costOf(i, x) {
		t.Fatalf("Better(%v, %v) = %v costs %d, %d", i, x, y, cost, e)
	}
	if !slices.Equal(x, before) {
		t.Fatalf("Better changed %v into %v", before, x)
	}
}

// Few different numbers make many that are equal, and great ones ratios that differ by little.
func TestDrawnProblems(t *testing.T) {
	r := rand.New(rand.NewSource(12))
	for kind := 1; kind <= 3; kind++ {
		for _, top := range []int{1, 2, 3, 10, 1000, 1 << 31} {
			for n := 1; n <= 9; n++ {
				for range 20 {
					i := draw(r, kind, n, top)
					holdFirst(t, i)
					holdBetter(t, i, shuffled(r, i))
				}
			}
		}
	}
}

func TestGreatProblems(t *testing.T) {
	r := rand.New(rand.NewSource(13))
	for kind := 1; kind <= 3; kind++ {
		most := 24
		if kind == 1 {
			most = 64
		}
		for _, top := range []int{1, 5, 1000, 1 << 31} {
			for n := most - 1; n <= most; n++ {
				i := draw(r, kind, n, top)
				holdFirst(t, i)
				holdBetter(t, i, shuffled(r, i))
			}
		}
		for n := most + 1; n <= most+2; n++ {
			i := draw(r, kind, n, 5)
			if x, e := greedy.First(i); len(x) != 0 || e != api.ErrBig {
				t.Error(kind, n, x, e)
			}
			if x, e := greedy.Better(i, make([]int, n)); len(x) != 0 || e != api.ErrBig {
				t.Error(kind, n, x, e)
			}
			if x, cost, e := greedy.Start(i); len(x) != 0 || cost != 0 || e != api.ErrBig {
				t.Error(kind, n, x, cost, e)
			}
		}
	}
}

func TestGreatestNumbers(t *testing.T) {
	const big = math.MaxInt32
	for n := 1; n <= 64; n++ {
		numbers := slices.Repeat([]int{big}, n)
		holdFirst(t, knapsack(big, numbers, numbers))
		holdFirst(t, knapsack(big, make([]int, n), numbers))
		holdFirst(t, knapsack(0, numbers, numbers))
		if n > 24 {
			continue
		}
		for kind := 2; kind <= 3; kind++ {
			var rows [][]int
			for a := range n {
				row := slices.Clone(numbers)
				if kind == 3 {
					row[a] = 0
				}
				rows = append(rows, row)
			}
			holdFirst(t, square(kind, rows...))
		}
	}
}

func TestFirst(t *testing.T) {
	for _, c := range []struct {
		what string
		i    api.Instance
		x    []int
	}{
		{"the document's example", knapsack(10, []int{6, 10}, []int{7, 9}), []int{0, 1}},
		{"one item is worth as much as those taken", knapsack(10, []int{6, 10}, []int{9, 9}), []int{1, 0}},
		{"the first of two that are worth the most", knapsack(10, []int{6, 10, 10}, []int{7, 9, 9}), []int{0, 1, 0}},
		{"what is worth the most does not fit", knapsack(9, []int{6, 10}, []int{7, 99}), []int{1, 0}},
		{"what is worth the most does not fit, the next does", knapsack(9, []int{3, 10, 9}, []int{4, 99, 8}), []int{0, 0, 1}},
		{"beside one item nothing stays, not even what weighs nothing", knapsack(10, []int{0, 1, 10}, []int{1, 2, 9}), []int{0, 0, 1}},
		{"it goes on behind an item that does not fit", knapsack(5, []int{3, 3, 2}, []int{9, 8, 1}), []int{1, 0, 1}},
		{"as much as there is room for", knapsack(5, []int{3, 2}, []int{1, 1}), []int{1, 1}},
		{"what is worth nothing, and fits", knapsack(5, []int{1, 5}, []int{0, 0}), []int{1, 0}},
		{"nothing fits", knapsack(1, []int{2, 3}, []int{5, 6}), []int{0, 0}},
		{"no room, but no weight either", knapsack(0, []int{0, 1, 0}, []int{0, 5, 3}), []int{1, 0, 1}},
		{"equal ratios: the first ones", knapsack(4, []int{2, 2, 2}, []int{3, 3, 3}), []int{1, 1, 0}},
		{"each row has one column left fewer", square(2, []int{1, 2}, []int{1, 9}), []int{0, 1}},
		{"the first of the lowest", square(2, []int{5, 1, 1}, []int{5, 1, 1}, []int{0, 0, 0}), []int{1, 2, 0}},
		{"one row", square(2, []int{7}), []int{0}},
		{"the nearest city that is left", square(3, []int{0, 5, 4}, []int{1, 0, 1}, []int{0, 3, 0}), []int{0, 2, 1}},
		{"the first of the nearest, by the way there", square(3, []int{0, 2, 2}, []int{9, 0, 9}, []int{0, 0, 0}), []int{0, 1, 2}},
		{"one city", square(3, []int{0}), []int{0}},
	} {
		x, e := greedy.First(c.i)
		if e != api.OK || !slices.Equal(x, c.x) {
			t.Errorf("%s: First(%v) = %v, %d, not %v", c.what, c.i, x, e, c.x)
		}
		holdFirst(t, c.i)
	}
}

func TestBetter(t *testing.T) {
	for _, c := range []struct {
		what string
		i    api.Instance
		x, y []int
	}{
		{"an item for one that is worth more", knapsack(3, []int{3, 3}, []int{1, 2}), []int{1, 0}, []int{0, 1}},
		{"not one that is worth as much", knapsack(3, []int{3, 2}, []int{2, 2}), []int{1, 0}, []int{1, 0}},
		{"not one that is too heavy", knapsack(3, []int{3, 4}, []int{1, 2}), []int{1, 0}, []int{1, 0}},
		{"just heavy enough", knapsack(4, []int{3, 4}, []int{1, 2}), []int{1, 0}, []int{0, 1}},
		{"nothing is added", knapsack(9, []int{1, 1}, []int{1, 2}), []int{0, 0}, []int{0, 0}},
		{"one item for the next, in the same round", knapsack(4, []int{4, 2, 4, 3}, []int{1, 5, 9, 8}), []int{1, 0, 0, 0}, []int{0, 0, 1, 0}},
		{"two rows change their columns", square(2, []int{2, 1}, []int{1, 2}), []int{0, 1}, []int{1, 0}},
		{"not for the same cost", square(2, []int{2, 1}, []int{1, 0}), []int{0, 1}, []int{0, 1}},
		{"a tour the other way round", square(3, []int{0, 9, 1}, []int{1, 0, 9}, []int{9, 1, 0}), []int{0, 1, 2}, []int{0, 2, 1}},
		{"a tour of two can't be changed", square(3, []int{0, 9}, []int{1, 0}), []int{0, 1}, []int{0, 1}},
		{"one city", square(3, []int{0}), []int{0}, []int{0}},
		{"one row", square(2, []int{7}), []int{0}, []int{0}},
		{"one item", knapsack(1, []int{1}, []int{1}), []int{0}, []int{0}},
	} {
		y, e := greedy.Better(c.i, c.x)
		if e != api.OK || !slices.Equal(y, c.y) {
			t.Errorf("%s: Better(%v, %v) = %v, %d, not %v", c.what, c.i, c.x, y, e, c.y)
		}
		holdBetter(t, c.i, c.x)
	}
}

// Round 51 would change these, and round 50 does.
func TestFiftyRounds(t *testing.T) {
	for _, i := range []api.Instance{square(2, longAssignment...), square(3, longTour...)} {
		x := value.Plain(i)
		if _, rounds := better(i, x, 100); rounds <= 50 {
			t.Fatalf("kind %d: it ends after %d rounds", i.Kind, rounds)
		}
		y, e := greedy.Better(i, x)
		for most := 49; most <= 51; most++ {
			want, _ := better(i, x, most)
			if e != api.OK || slices.Equal(y, want) != (most == 50) {
				t.Errorf("kind %d: Better answers %v, %d; after %d rounds it is %v", i.Kind, y, e, most, want)
			}
		}
		// A second call has fifty rounds of its own.
		z, e := greedy.Better(i, y)
		if want, _ := better(i, x, 100); e != api.OK || !slices.Equal(z, want) {
			t.Errorf("kind %d: Better of that answers %v, %d, not %v", i.Kind, z, e, want)
		}
	}
}

// The errors of inst.Check come first, then those of the list, then too great a weight.
func TestErrors(t *testing.T) {
	list := [][]int{nil, {}, {0}, {0, 1}, {1, 1}, {2, 0}, {-1, 0}, {0, 0, 0}}
	for _, i := range []api.Instance{
		{}, {Kind: 4, N: 1}, {Kind: math.MinInt}, {Kind: 1}, {Kind: 2, N: -1}, {Kind: 3, N: math.MinInt},
		{Kind: 1, N: math.MaxInt}, {Kind: 2, N: 25}, {Kind: 3, N: 25}, {Kind: 1, N: 65}, {Kind: 1, N: 2}, {Kind: 2, N: 2, Cost: [][]int{{1, 2}, {3}}}, {Kind: 3, N: 1, Cap: 1, Cost: [][]int{{0}}},
		knapsack(-1, []int{1}, []int{1}), knapsack(1, []int{1}, []int{-1}), knapsack(1, []int{1 << 31}, []int{1}), square(2, []int{-1}), square(2, []int{1 << 31}), square(3, []int{1}), square(3, []int{0, 1}, []int{1, 5}),
	} {
		e := inst.Check(i)
		if e == api.OK {
			t.Error("valid:", i)
		}
		if x, err := greedy.First(i); len(x) != 0 || err != e {
			t.Errorf("First(%v) = %v, %d, not %d", i, x, err, e)
		}
		if x, cost, err := greedy.Start(i); len(x) != 0 || cost != 0 || err != e {
			t.Errorf("Start(%v) = %v, %d, %d, not %d", i, x, cost, err, e)
		}
		for _, l := range list {
			if x, err := greedy.Better(i, l); len(x) != 0 || err != e {
				t.Errorf("Better(%v, %v) = %v, %d, not %d", i, l, x, err, e)
			}
		}
	}
	for _, c := range []struct {
		i api.Instance
		x []int
		e api.Errno
	}{
		{knapsack(5, []int{3, 3}, []int{4, 6}), []int{1, 1}, api.ErrFull},
		{knapsack(5, []int{3, 3}, []int{4, 6}), []int{1, 2}, api.ErrArg},
		{knapsack(5, []int{9, 3}, []int{4, 6}), []int{1, -1}, api.ErrArg},
		{knapsack(5, []int{9, 3}, []int{4, 6}), []int{1}, api.ErrArg},
		{knapsack(5, []int{3, 3}, []int{4, 6}), nil, api.ErrArg},
		{square(2, []int{1, 2}, []int{3, 9}), []int{1, 1}, api.ErrArg},
		{square(2, []int{1, 2}, []int{3, 9}), []int{0, 2}, api.ErrArg},
		{square(2, []int{1, 2}, []int{3, 9}), nil, api.ErrArg},
		{square(3, []int{0, 2}, []int{3, 0}), []int{1, 0}, api.ErrArg},
		{square(3, []int{0, 2}, []int{3, 0}), []int{0, 1, 2}, api.ErrArg},
		{square(3, []int{0}), []int{}, api.ErrArg},
	} {
		if x, e := greedy.Better(c.i, c.x); len(x) != 0 || e != c.e {
			t.Errorf("Better(%v, %v) = %v, %d, not %d", c.i, c.x, x, e, c.e)
		}
	}
}

// Neither lists nor what stands behind them are changed, and each answer is new.
func TestListsOfTheirOwn(t *testing.T) {
	r := rand.New(rand.NewSource(14))
	for kind := 1; kind <= 3; kind++ {
		for range 50 {
			i := draw(r, kind, 5, 20)
			i.Weight, i.Value, i.Cost = slices.Grow(i.Weight, 2), slices.Grow(i.Value, 2), slices.Grow(i.Cost, 2)
			x := append(make([]int, 0, 8), shuffled(r, i)...)
			tell := func() string {
				return fmt.Sprint(i, x[:8], i.Weight[:cap(i.Weight)], i.Value[:cap(i.Value)], i.Cost[:cap(i.Cost)])
			}
			calls := []func() []int{
				func() []int { l, _ := greedy.First(i); return l },
				func() []int { l, _ := greedy.Better(i, x); return l },
				func() []int { l, _, _ := greedy.Start(i); return l },
			}
			before := tell()
			for k, call := range calls {
				l := call()
				want := slices.Clone(l)
				for j := range l[:cap(l)] {
					l[:cap(l)][j] = -7
				}
				if after := tell(); after != before {
					t.Fatalf("call %d: %s became %s", k, before, after)
				}
				if again := call(); !slices.Equal(again, want) {
					t.Fatalf("call %d: %v, and then %v", k, want, again)
				}
			}
		}
	}
}
