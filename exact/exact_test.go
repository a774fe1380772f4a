package exact_test

import (
	"fmt"
	"math"
	"math/rand"
	"slices"
	"testing"

	"kurgan/api"
	"kurgan/exact"
	"kurgan/inst"
	"kurgan/kernel"
	"kurgan/value"
)

func knapsack(room int, weight, worth []int) api.Instance {
	return api.Instance{Kind: 1, N: len(weight), Cap: room, Weight: weight, Value: worth}
}

func square(kind int, rows ...[]int) api.Instance {
	return api.Instance{Kind: kind, N: len(rows), Cost: rows}
}

func list(n int, number func(k int) int) []int {
	l := []int{}
	for k := range n {
		l = append(l, number(k))
	}
	return l
}

// all is a problem of a kind and a size whose numbers are what number answers.
func all(kind, n, room int, number func() int) api.Instance {
	numbers := func() []int { return list(n, func(int) int { return number() }) }
	if kind == 1 {
		return knapsack(room, numbers(), numbers())
	}
	var rows [][]int
	for a := range n {
		row := numbers()
		if kind == 3 {
			row[a] = 0
		}
		rows = append(rows, row)
	}
	return square(kind, rows...)
}

func draw(r *rand.Rand, kind, n, top int) api.Instance {
	return all(kind, n, r.Intn(min(n*top*2/3+1, 1<<31)), func() int { return r.Intn(top) })
}

// mirrored makes each way cost what the way back does.
func mirrored(i api.Instance) api.Instance {
	for a := range i.N {
		for b := range a {
			i.Cost[a][b] = i.Cost[b][a]
		}
	}
	return i
}

// even has one number everywhere.
func even(kind, n, room, number int) api.Instance {
	return all(kind, n, room, func() int { return number })
}

type solver = func(i api.Instance) ([]int, int, api.Errno)

// solvers: Best, and at a kind's number the function for it.
func solvers() []solver {
	return []solver{exact.Best, exact.Knapsack, exact.Assignment, exact.Tour}
}

// costOf is what a solution costs, by the words of layer 8; -1: the list is no solution.
func costOf(i api.Instance, x []int) int {
	if len(x) != i.N {
		return -1
	}
	cost, weight := 0, 0
	for k, n := range x {
		switch {
		case i.Kind == 1 && n == 1:
			weight += i.Weight[k]
		case i.Kind == 1 && n == 0:
			cost += i.Value[k]
		case i.Kind == 1 || n < 0 || n >= i.N || slices.Contains(x[:k], n) || i.Kind == 3 && x[0] != 0:
			return -1
		case i.Kind == 2:
			cost += i.Cost[k][n]
		case k > 0:
			cost += i.Cost[x[k-1]][n]
		}
	}
	if i.Kind == 3 {
		cost += i.Cost[x[i.N-1]][0]
	}
	if weight > i.Cap {
		return -1
	}
	return cost
}

// endings calls visit for all lists of so many numbers that begin with these, with 0 and 1 for a Knapsack, and each number once for the others.
func endings(kind, n int, x []int, visit func(x []int)) {
	if len(x) == n {
		visit(x)
		return
	}
	for k := range n {
		if kind == 1 && k < 2 || kind != 1 && !slices.Contains(x, k) {
			endings(kind, n, append(slices.Clone(x), k), visit)
		}
	}
	if kind == 1 && n == 1 { // for which the numbers below n are too few
		endings(kind, n, []int{1}, visit)
	}
}

// least is the lowest cost of all solutions.
func least(i api.Instance) int {
	best := math.MaxInt
	endings(i.Kind, i.N, nil, func(x []int) {
		if cost := costOf(i, x); cost >= 0 {
			best = min(best, cost)
		}
	})
	return best
}

// hold: the function for the kind tells a solution and what it costs, Best tells the same, and the others that it is of another kind.
func hold(t *testing.T, i api.Instance) ([]int, int) {
	t.Helper()
	x, cost, e := solvers()[i.Kind](i)
	if e != api.OK || costOf(i, x) != cost || cost < 0 {
		t.Fatalf("%v: %v, %d, %d", i, x, cost, e)
	}
	if c, e := value.Cost(i, x); c != cost || e != api.OK {
		t.Fatalf("%v: %v costs %d, %d, not %d", i, x, c, e, cost)
	}
	if y, c, e := exact.Best(i); !slices.Equal(y, x) || c != cost || e != api.OK {
		t.Fatalf("%v: Best is %v, %d, %d, not %v, %d", i, y, c, e, x, cost)
	}
	for kind, other := range solvers() {
		if kind == 0 || kind == i.Kind {
			continue
		}
		if y, c, e := other(i); len(y) != 0 || c != 0 || e != api.ErrKind {
			t.Fatalf("%v as kind %d: %v, %d, %d", i, kind, y, c, e)
		}
	}
	return x, cost
}

// holdLeast holds a problem against all its solutions.
func holdLeast(t *testing.T, i api.Instance) {
	t.Helper()
	if x, cost := hold(t, i); cost != least(i) {
		t.Fatalf("%v: %v costs %d, another one %d", i, x, cost, least(i))
	}
}

func TestAllSolutionsOfSmallProblems(t *testing.T) {
	r := rand.New(rand.NewSource(50))
	for kind := 1; kind <= 3; kind++ {
		most := 6
		if kind == 1 {
			most = 9
		}
		for n := 1; n <= most; n++ {
			for _, top := range []int{1, 2, 3, 10, 1000, 1 << 31} {
				for round := range 12 {
					i := draw(r, kind, n, top)
					if kind == 3 && round%2 == 0 {
						i = mirrored(i)
					}
					holdLeast(t, i)
				}
			}
		}
	}
}

// Each problem with few items or rows and small numbers.
func TestAllTinyProblems(t *testing.T) {
	var numbers []int
	number := func() int {
		n := numbers[0]
		numbers = numbers[1:]
		return n
	}
	each := func(digits, base int, visit func(code int)) {
		for code := range int(math.Pow(float64(base), float64(digits))) {
			numbers = list(digits, func(k int) int { return code / int(math.Pow(float64(base), float64(k))) % base })
			visit(code)
		}
	}
	for n := 1; n <= 3; n++ {
		each(2*n, 4, func(code int) {
			digits := slices.Clone(numbers)
			for room := range 7 {
				numbers = slices.Clone(digits)
				holdLeast(t, all(1, n, room, number))
			}
		})
	}
	for n := 1; n <= 2; n++ {
		each(n*n, 5, func(int) { holdLeast(t, all(2, n, 0, number)) })
		each(n*n, 5, func(int) { holdLeast(t, all(3, n, 0, number)) })
	}
	each(9, 3, func(code int) {
		digits := slices.Clone(numbers)
		holdLeast(t, all(2, 3, 0, number))
		numbers = digits
		holdLeast(t, all(3, 3, 0, number))
	})
}

func TestExamples(t *testing.T) {
	for _, c := range []struct {
		what string
		i    api.Instance
		x    []int // nil: there are several
		cost int
	}{
		{"the document's example", square(2, []int{1, 2}, []int{3, 9}), []int{1, 0}, 5},
		{"one row", square(2, []int{7}), []int{0}, 7},
		{"one row, free", square(2, []int{0}), []int{0}, 0},
		{"three rows, none with its least", square(2, []int{1, 2, 9}, []int{1, 9, 3}, []int{9, 1, 2}), nil, 5},
		{"equal rows", square(2, []int{4, 6}, []int{4, 6}), nil, 10},
		{"one city", square(3, []int{0}), []int{0}, 0},
		{"two cities", square(3, []int{0, 7}, []int{5, 0}), []int{0, 1}, 12},
		{"three cities, the other way round", square(3, []int{0, 1, 10}, []int{100, 0, 1000}, []int{10000, 100000, 0}), []int{0, 1, 2}, 11001},
		{"three cities", square(3, []int{0, 9, 1}, []int{1, 0, 9}, []int{9, 1, 0}), []int{0, 2, 1}, 3},
		{"the nearest city first is worse", square(3, []int{0, 1, 2, 9}, []int{9, 0, 1, 9}, []int{9, 9, 0, 1}, []int{50, 2, 9, 0}), nil, 14},
		{"one item that fits", knapsack(3, []int{3}, []int{4}), []int{1}, 0},
		{"one item that doesn't", knapsack(2, []int{3}, []int{4}), []int{0}, 4},
		{"one item without weight, no room", knapsack(0, []int{0}, []int{4}), []int{1}, 0},
		{"one item with weight, no room", knapsack(0, []int{1}, []int{4}), []int{0}, 4},
		{"the better ratio is worse", knapsack(10, []int{6, 5, 5}, []int{13, 10, 10}), []int{0, 1, 1}, 13},
		{"the heavier one is better", knapsack(10, []int{9, 10}, []int{1, 2}), []int{0, 1}, 1},
		{"as heavy, and worth more", knapsack(4, []int{4, 4, 4}, []int{5, 7, 6}), []int{0, 1, 0}, 11},
		{"the lighter one is worth as much", knapsack(7, []int{4, 3, 4}, []int{5, 5, 5}), nil, 5},
		{"items without weight, no room", knapsack(0, []int{0, 2, 0}, []int{4, 6, 5}), []int{1, 0, 1}, 6},
		{"worth nothing", knapsack(2, []int{2, 3}, []int{0, 0}), nil, 0},
		{"all have room", knapsack(6, []int{1, 2, 3}, []int{4, 6, 5}), []int{1, 1, 1}, 0},
		{"all but one have room", knapsack(5, []int{1, 2, 3}, []int{4, 6, 5}), []int{0, 1, 1}, 4},
		{"none has room", knapsack(5, []int{6, 7, 8}, []int{4, 6, 5}), []int{0, 0, 0}, 15},
	} {
		x, cost := hold(t, c.i)
		if cost != c.cost || c.x != nil && !slices.Equal(x, c.x) || cost != least(c.i) {
			t.Errorf("%s: %v, %d, not %v, %d", c.what, x, cost, c.x, c.cost)
		}
	}
}

// A search by the bounds of layers 11 to 14 finds nothing better, and something as good.
func TestSearchFindsTheSame(t *testing.T) {
	r := rand.New(rand.NewSource(51))
	for kind := 1; kind <= 3; kind++ {
		for n := 7; n <= 9; n++ {
			for _, top := range []int{3, 30, 1 << 31} {
				i := draw(r, kind, n, top)
				_, cost := hold(t, i)
				k, _ := kernel.Of(i)
				if _, best, done := kernel.Better(k, cost+1, 1<<20); best != cost || !done {
					t.Errorf("%v: %d, a search %d, %v", i, cost, best, done)
				}
			}
		}
	}
}

// wrong: for each error of inst.Check, problems of each kind that it is the first one of.
func wrong() map[api.Errno][]api.Instance {
	const over = math.MaxInt32 + 1
	negative, great := even(3, 13, 0, 5), even(1, 19, 5, 5)
	negative.Cost[12][0] = -1
	great.Value[18] = over
	short := even(1, 19, 5, 5)
	short.Weight = short.Weight[1:]
	return map[api.Errno][]api.Instance{
		api.ErrKind: {{}, {Kind: 4, N: 1}, {Kind: -1, N: 65}, {Kind: math.MinInt}, {Kind: math.MaxInt, Cap: -1}},
		api.ErrArg: {
			{Kind: 1}, {Kind: 2, N: -1}, {Kind: 3, N: math.MinInt, Cap: over}, negative,
			knapsack(-1, []int{1}, []int{over}), knapsack(1, []int{-1}, []int{1}), knapsack(1, []int{1}, []int{-1}),
			square(2, []int{-1}), square(3, []int{-1}), square(3, []int{0, -1}, []int{1, 5}),
		},
		api.ErrBig: {
			{Kind: 1, N: 65}, even(1, 65, 5, 5), {Kind: 2, N: 25}, even(2, 25, 0, 5), {Kind: 3, N: math.MaxInt}, even(3, 25, 0, -5), great,
			knapsack(over, []int{1}, []int{-1}), knapsack(1, []int{over}, []int{1}), knapsack(1, []int{1}, []int{math.MaxInt}),
			square(2, []int{over}), square(3, []int{0, over}, []int{1, 5}),
		},
		api.ErrForm: {
			{Kind: 1, N: 1}, {Kind: 1, N: 1, Weight: []int{1}, Value: []int{1}, Cost: [][]int{{0}}}, short, {Kind: 1, N: 64, Cap: -1},
			{Kind: 2, N: 1}, {Kind: 2, N: 2, Cost: [][]int{{1, 2}, {-1}}}, {Kind: 2, N: 1, Cap: 1, Cost: [][]int{{1}}}, {Kind: 2, N: 1, Cost: [][]int{{1}}, Value: []int{1}},
			{Kind: 3, N: 13}, {Kind: 3, N: 1, Cost: [][]int{{}}}, {Kind: 3, N: 1, Cost: [][]int{{0}, {0}}}, square(3, []int{1}), square(3, []int{0, 1}, []int{1, 5}),
		},
	}
}

// refuse: all four functions, or those of these kinds, answer the error and nothing else.
func refuse(t *testing.T, i api.Instance, e api.Errno, kinds ...int) {
	t.Helper()
	for _, kind := range kinds {
		if x, cost, err := solvers()[kind](i); len(x) != 0 || cost != 0 || err != e {
			t.Errorf("%v as kind %d: %v, %d, %d, not %d", i, kind, x, cost, err, e)
		}
	}
}

// The errors of inst.Check come ahead of that of another kind.
func TestWrongProblems(t *testing.T) {
	for e, problems := range wrong() {
		for _, i := range problems {
			if inst.Check(i) != e {
				t.Errorf("%v is wrong in another way", i)
			}
			refuse(t, i, e, 0, 1, 2, 3)
		}
	}
}

// Another kind comes ahead of too many items or cities.
func TestTooManyItemsAndCities(t *testing.T) {
	for _, n := range []int{19, 20, 32, 63, 64} {
		refuse(t, even(1, n, 5, 5), api.ErrBig, 0, 1)
		refuse(t, even(1, n, 5, 5), api.ErrKind, 2, 3)
		refuse(t, even(1, n, 0, 0), api.ErrBig, 0, 1)
	}
	for _, n := range []int{13, 14, 18, 23, 24} {
		refuse(t, even(3, n, 0, 5), api.ErrBig, 0, 3)
		refuse(t, even(3, n, 0, 5), api.ErrKind, 1, 2)
	}
	for n := 13; n <= 24; n++ { // these limits are of no concern to rows
		if _, cost := hold(t, even(2, n, 0, 5)); cost != 5*n {
			t.Error(n, cost)
		}
	}
}

// spare is a problem whose lists have room behind them, in which numbers stand.
func spare(r *rand.Rand, kind, n int) (i api.Instance, tell func() string) {
	i = draw(r, kind, n, 9)
	longer := func(l []int) []int { return append(slices.Clone(l), 71, 72, 73)[:len(l)] }
	i.Weight, i.Value = longer(i.Weight), longer(i.Value)
	for a, row := range i.Cost {
		i.Cost[a] = longer(row)
	}
	i.Cost = append(i.Cost, []int{74}, []int{75})[:len(i.Cost)]
	if kind != 1 {
		i.Weight, i.Value = nil, nil
	}
	return i, func() string {
		text := fmt.Sprint(i, i.Weight[:cap(i.Weight)], i.Value[:cap(i.Value)], i.Cost[:cap(i.Cost)])
		for _, row := range i.Cost {
			text += fmt.Sprint(row[:cap(row)])
		}
		return text
	}
}

// Nothing that was handed in is changed, and answers neither hang on it any more nor share memory with it or with one another.
func TestArgumentsStay(t *testing.T) {
	r := rand.New(rand.NewSource(52))
	for kind := 1; kind <= 3; kind++ {
		for _, solve := range []solver{exact.Best, solvers()[kind]} {
			for n := 1; n <= 7; n++ {
				i, tell := spare(r, kind, n)
				before := tell()
				x, cost, _ := solve(i)
				right := slices.Clone(x)
				y, again, _ := solve(inst.Copy(i))
				if !slices.Equal(y, right) || again != cost {
					t.Fatalf("%v: first %v, %d, then %v, %d", i, right, cost, y, again)
				}
				for k := range y {
					y[k] = -9
				}
				y = append(y, -9)
				if !slices.Equal(x, right) || tell() != before {
					t.Fatalf("%s became %s, and %v %v", before, tell(), right, x)
				}
				x[0] = -8
				clear(x[:cap(x)])
				if z, third, _ := solve(i); !slices.Equal(z, right) || third != cost || tell() != before {
					t.Fatalf("%s became %s, and %v %v, %d", before, tell(), right, z, third)
				}
			}
		}
	}
}

// A problem that is changed after a call has another answer in the next, and the answers that were told stay.
func TestNothingIsKept(t *testing.T) {
	for kind := 1; kind <= 3; kind++ {
		for _, solve := range []solver{exact.Best, solvers()[kind]} {
			r := rand.New(rand.NewSource(53))
			i := draw(r, kind, 6, 50)
			for range 40 {
				x, cost, _ := solve(i)
				right := slices.Clone(x)
				if cost != least(i) {
					t.Fatalf("%v: %d, not %d", i, cost, least(i))
				}
				other := draw(r, kind, 6, 50)
				i.Cap = other.Cap
				copy(i.Weight, other.Weight)
				copy(i.Value, other.Value)
				for a := range i.Cost {
					copy(i.Cost[a], other.Cost[a])
				}
				if !slices.Equal(x, right) {
					t.Fatalf("%v became %v", right, x)
				}
			}
		}
	}
}
