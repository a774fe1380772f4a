package tour_test

import (
	"fmt"
	"math"
	"math/rand"
	"slices"
	"testing"

	"kurgan/api"
	"kurgan/inst"
	"kurgan/tour"
	"kurgan/value"
)

func square(rows ...[]int) api.Instance {
	return api.Instance{Kind: 3, N: len(rows), Cost: rows}
}

// draw is a Tour with numbers below top, symmetric or as it comes.
func draw(r *rand.Rand, n, top int, symmetric bool) api.Instance {
	var rows [][]int
	for a := range n {
		row := make([]int, n)
		for b := range n {
			if symmetric && b < a {
				row[b] = rows[b][a]
			} else if a != b {
				row[b] = r.Intn(top)
			}
		}
		rows = append(rows, row)
	}
	return square(rows...)
}

// even is a Tour with the same cost for each way.
func even(n, cost int) api.Instance {
	var rows [][]int
	for a := range n {
		row := slices.Repeat([]int{cost}, n)
		row[a] = 0
		rows = append(rows, row)
	}
	return square(rows...)
}

func isPrefix(i api.Instance, p []int) bool {
	for at, n := range p {
		if at >= i.N-1 || n < 1 || n >= i.N || slices.Contains(p[:at], n) {
			return false
		}
	}
	return true
}

func lastOf(p []int) int { return append([]int{0}, p...)[len(p)] }

func isSymmetric(i api.Instance) bool {
	for a := range i.N {
		for b := range i.N {
			if i.Cost[a][b] != i.Cost[b][a] {
				return false
			}
		}
	}
	return true
}

// bound is the chapter's Bound.
func bound(i api.Instance, p []int) int {
	c, l := 0, lastOf(p)
	for at, n := range p {
		c += i.Cost[lastOf(p[:at])][n]
	}
	var u []int
	for city := 1; city < i.N; city++ {
		if !slices.Contains(p, city) {
			u = append(u, city)
		}
	}
	if len(u) == 0 {
		return c + i.Cost[l][0]
	}
	if !isSymmetric(i) {
		return c + byMatrix(i, l, u)
	}
	return c + max(byMatrix(i, l, u), int(math.Ceil(float64(byPairs(i, l, u))/2))) // of less than 53 bits
}

// byMatrix is the A + B of a matrix that is written out, where -1 is no entry.
func byMatrix(i api.Instance, l int, u []int) int {
	rows, columns := append([]int{l}, u...), append([]int{0}, u...)
	var matrix [][]int
	for _, a := range rows {
		var row []int
		for _, b := range columns {
			if a == b || a == l && b == 0 {
				row = append(row, -1)
			} else {
				row = append(row, i.Cost[a][b])
			}
		}
		matrix = append(matrix, row)
	}
	sum := 0
	for _, row := range matrix {
		least := leastEntry(row)
		sum += least
		for b := range row {
			if row[b] >= 0 {
				row[b] -= least
			}
		}
	}
	for b := range columns {
		var l []int
		for _, row := range matrix {
			l = append(l, row[b])
		}
		sum += leastEntry(l)
	}
	return sum
}

func leastEntry(l []int) int {
	return slices.Min(slices.DeleteFunc(slices.Clone(l), func(n int) bool { return n < 0 }))
}

// byPairs is the chapter's S.
func byPairs(i api.Instance, l int, u []int) int {
	s := 0
	var out, home []int
	for _, city := range u {
		costs := []int{i.Cost[city][l], i.Cost[city][0]}
		for _, v := range u {
			if v != city {
				costs = append(costs, i.Cost[city][v])
			}
		}
		slices.Sort(costs)
		s += costs[0] + costs[1]
		out, home = append(out, i.Cost[l][city]), append(home, i.Cost[city][0])
	}
	return s + slices.Min(out) + slices.Min(home)
}

// kids: each time the last of the cities left that no other one is nearer than.
func kids(i api.Instance, p []int) []int {
	var l []int
	for len(p)+len(l) < i.N-1 {
		best := -1
		for c := i.N - 1; c > 0; c-- {
			if !slices.Contains(p, c) && !slices.Contains(l, c) && (best < 0 || i.Cost[lastOf(p)][c] <= i.Cost[lastOf(p)][best]) {
				best = c
			}
		}
		l = append(l, best)
	}
	return l
}

func kernelOf(t *testing.T, i api.Instance) *tour.Kernel {
	t.Helper()
	k, e := tour.New(i)
	if e != api.OK || k == nil {
		t.Fatalf("New(%v) = %v, %d", i, k, e)
	}
	if k.Depth() != i.N-1 {
		t.Fatalf("Depth of %v is %d", i, k.Depth())
	}
	return k
}

// hold holds all that a kernel answers to a list against the chapter's words.
func hold(t *testing.T, i api.Instance, k *tour.Kernel, p []int) {
	t.Helper()
	if !isPrefix(i, p) {
		refuse(t, k, p)
		return
	}
	if l, e := k.Kids(p); !slices.Equal(l, kids(i, p)) || e != api.OK {
		t.Fatalf("%v: Kids(%v) = %v, %d, not %v", i, p, l, e, kids(i, p))
	}
	if b, e := k.Bound(p); b != bound(i, p) || e != api.OK {
		t.Fatalf("%v: Bound(%v) = %d, %d, not %d", i, p, b, e, bound(i, p))
	}
	var x []int
	want := api.ErrArg
	if len(p) == i.N-1 {
		x, want = append([]int{0}, p...), api.OK
	}
	if y, e := k.Answer(p); !slices.Equal(y, x) || e != want {
		t.Fatalf("%v: Answer(%v) = %v, %d, not %v, %d", i, p, y, e, x, want)
	}
}

func refuse(t *testing.T, k *tour.Kernel, p []int) {
	t.Helper()
	if l, e := k.Kids(p); len(l) != 0 || e != api.ErrArg {
		t.Fatalf("Kids(%v) = %v, %d", p, l, e)
	}
	if b, e := k.Bound(p); b != 0 || e != api.ErrArg {
		t.Fatalf("Bound(%v) = %d, %d", p, b, e)
	}
	if x, e := k.Answer(p); len(x) != 0 || e != api.ErrArg {
		t.Fatalf("Answer(%v) = %v, %d", p, x, e)
	}
}

// lists: all lists of so many numbers out of those.
func lists(n int, numbers ...int) [][]int {
	if n == 0 {
		return [][]int{{}}
	}
	var out [][]int
	for _, l := range lists(n-1, numbers...) {
		for _, k := range numbers {
			out = append(out, append(slices.Clone(l), k))
		}
	}
	return out
}

func TestAllShortLists(t *testing.T) {
	r := rand.New(rand.NewSource(40))
	for n := 1; n <= 5; n++ {
		for _, top := range []int{1, 2, 4, 100} {
			for round := range 4 {
				i := draw(r, n, top, round%2 == 0)
				k := kernelOf(t, i)
				hold(t, i, k, nil)
				for length := range n + 1 {
					for _, p := range lists(length, -1, 0, 1, 2, 3, 4, 5) {
						hold(t, i, k, p)
					}
				}
			}
		}
	}
}

func TestExamples(t *testing.T) {
	one, two := square([]int{0}), square([]int{0, 7}, []int{5, 0})
	// The matrix says 0 + 1 + 0 + 1 and no more; the ends say 2 + 0 + 5 and 0 + 0, half of which is 4, rounded up.
	mirror := square([]int{0, 6, 0, 6}, []int{6, 0, 1, 1}, []int{0, 1, 0, 4}, []int{6, 1, 4, 0})
	nearly := square([]int{0, 6, 0, 6}, []int{6, 0, 1, 1}, []int{0, 1, 0, 4}, []int{6, 1, 5, 0})
	for _, c := range []struct {
		what    string
		i       api.Instance
		p, kids []int
		bound   int
	}{
		{"the document's example", even(3, 5), nil, []int{1, 2}, 15},
		{"the document's example", even(3, 5), []int{2}, []int{1}, 15},
		{"complete", even(3, 5), []int{2, 1}, nil, 15},
		{"one city", one, nil, nil, 0},
		{"two cities", two, nil, []int{1}, 12},
		{"two cities, complete", two, []int{1}, nil, 12},
		{"two cities, symmetric: the one way counts twice", even(2, 7), nil, []int{1}, 14},
		{"half of an odd sum", mirror, nil, []int{2, 1, 3}, 4},
		{"no half, since one way costs more than the way back", nearly, nil, []int{2, 1, 3}, 2},
		{"from the last city", square([]int{0, 1, 2, 3}, []int{1, 0, 9, 4}, []int{0, 0, 0, 0}, []int{0, 0, 0, 0}), []int{1}, []int{3, 2}, 1 + 4},
		{"by the way there, not by the way back", square([]int{0, 2, 1}, []int{1, 0, 9}, []int{2, 9, 0}), nil, []int{2, 1}, 1 + 1 + 2 + 1},
		{"equal costs", square([]int{0, 3, 2, 3}, []int{0, 0, 0, 0}, []int{0, 0, 0, 0}, []int{0, 0, 0, 0}), nil, []int{2, 1, 3}, 2},
	} {
		k := kernelOf(t, c.i)
		hold(t, c.i, k, c.p)
		l, _ := k.Kids(c.p)
		b, _ := k.Bound(c.p)
		if !slices.Equal(l, c.kids) || b != c.bound {
			t.Errorf("%s: Kids(%v) = %v, Bound %d, not %d", c.what, c.p, l, b, c.bound)
		}
	}
	if x, e := kernelOf(t, one).Answer(nil); !slices.Equal(x, []int{0}) || e != api.OK {
		t.Error(x, e)
	}
}

// Each of both numbers is the greater one for some tours; and half of an odd sum is told as well.
func TestBothNumbersCount(t *testing.T) {
	r := rand.New(rand.NewSource(41))
	first, second, odd := 0, 0, 0
	for range 300 {
		i := draw(r, 3+r.Intn(5), 12, true)
		for length := range i.N - 2 {
			var p, u []int
			for at, city := range r.Perm(i.N - 1) {
				if at < length {
					p = append(p, city+1)
				} else {
					u = append(u, city+1)
				}
			}
			hold(t, i, kernelOf(t, i), p)
			matrix, pairs := byMatrix(i, lastOf(p), u), byPairs(i, lastOf(p), u)
			switch {
			case 2*matrix > pairs+1:
				first++
			case 2*matrix < pairs-1:
				second++
				odd += pairs % 2
			}
		}
	}
	if first < 10 || second < 10 || odd < 10 {
		t.Error(first, second, odd)
	}
}

// walk calls visit for each prefix that the kernel leads to.
func walk(k *tour.Kernel, p []int, visit func(p []int)) {
	visit(p)
	l, _ := k.Kids(p)
	for _, n := range l {
		walk(k, append(slices.Clone(p), n), visit)
	}
}

// endings: all tours that begin with these cities.
func endings(n int, x []int) [][]int {
	if len(x) == n {
		return [][]int{x}
	}
	var all [][]int
	for c := range n {
		if !slices.Contains(x, c) {
			all = append(all, endings(n, append(slices.Clone(x), c))...)
		}
	}
	return all
}

// For each prefix of small problems: what all solutions cost that begin so; and each solution is that of one complete prefix.
func TestNoSolutionIsBelowItsBounds(t *testing.T) {
	r := rand.New(rand.NewSource(42))
	for n := 1; n <= 6; n++ {
		for _, top := range []int{1, 2, 3, 10, 1000, 1 << 31} {
			for round := range 6 {
				i := draw(r, n, top, round%2 == 0)
				k := kernelOf(t, i)
				seen := map[string]bool{}
				walk(k, nil, func(p []int) {
					hold(t, i, k, p)
					b, _ := k.Bound(p)
					for _, x := range endings(n, append([]int{0}, p...)) {
						cost, e := value.Cost(i, x)
						if e != api.OK || cost < b || len(p) == n-1 && cost != b {
							t.Fatalf("%v: Bound(%v) = %d, but %v costs %d, %d", i, p, b, x, cost, e)
						}
					}
					if x, e := k.Answer(p); e == api.OK {
						if seen[fmt.Sprint(x)] {
							t.Fatalf("%v: %v is met twice", i, x)
						}
						seen[fmt.Sprint(x)] = true
					}
				})
				for _, x := range endings(n, []int{0}) {
					if !seen[fmt.Sprint(x)] {
						t.Fatalf("%v: %v is never met", i, x)
					}
				}
			}
		}
	}
}

func TestGreatProblems(t *testing.T) {
	const most = math.MaxInt32
	r := rand.New(rand.NewSource(43))
	for _, n := range []int{23, 24} {
		for _, i := range []api.Instance{
			draw(r, n, 3, true), draw(r, n, 1000, true), draw(r, n, 1<<31, true),
			draw(r, n, 3, false), draw(r, n, 1000, false), draw(r, n, 1<<31, false), even(n, most),
		} {
			k := kernelOf(t, i)
			for range 10 {
				var p []int
				for _, city := range r.Perm(n - 1) {
					p = append(p, city+1)
				}
				for length := range n {
					hold(t, i, k, p[:length])
				}
				hold(t, i, k, append(p, 0))
				hold(t, i, k, append(p, n))
				hold(t, i, k, append(p, p[0]))
			}
		}
		if b, e := kernelOf(t, even(n, most)).Bound(nil); b != n*most || e != api.OK {
			t.Error(b, e)
		}
	}
}

// far: numbers that fall on others, or on none, if only their lowest bits are looked at.
func far(n int) []int {
	return []int{math.MinInt, math.MinInt + 1, -128, -64, -1, 0, n, 63, 64, 65, 127, 128, 129, 256, 257, 1 << 32, 1<<32 + 1, math.MaxInt}
}

func TestNoPrefixes(t *testing.T) {
	k := kernelOf(t, even(4, 5))
	for _, n := range far(4) { // out of range, at each place
		for _, p := range [][]int{{n}, {n, 1}, {1, n}, {1, 2, n}, {n, 1, 2}, {2, n, 1}} {
			refuse(t, k, p)
		}
	}
	for _, p := range [][]int{
		{1, 1}, {2, 2}, {1, 2, 1}, {1, 2, 2}, {3, 3, 2}, // one twice
		{1, 2, 3, 0}, {1, 2, 3, 4}, {3, 2, 1, 1}, {1, 1, 1, 1}, {0, 1, 2, 3}, make([]int, 24), make([]int, 25), make([]int, 100000), // too long
	} {
		refuse(t, k, p)
	}
	for _, p := range [][]int{nil, {}, {1}, {3, 2}} { // prefixes, but none of them complete
		if x, e := k.Answer(p); len(x) != 0 || e != api.ErrArg {
			t.Errorf("Answer(%v) = %v, %d", p, x, e)
		}
	}
	k = kernelOf(t, even(1, 0))
	for _, p := range [][]int{{0}, {1}, {-1}, {0, 1}} {
		refuse(t, k, p)
	}
	k = kernelOf(t, even(2, 7))
	for _, p := range [][]int{{0}, {2}, {1, 0}, {1, 1}, {0, 1}, {1, 2}} {
		refuse(t, k, p)
	}
}

func TestNilKernels(t *testing.T) {
	for _, k := range []*tour.Kernel{nil, {}} {
		if k.Depth() != 0 {
			t.Error(k.Depth())
		}
		for _, p := range [][]int{nil, {}, {0}, {1}, {0, 1}, {-1}, make([]int, 65)} {
			refuse(t, k, p)
		}
	}
}

// The errors of inst.Check come first; a valid problem of another kind is of no use here.
func TestWrongProblems(t *testing.T) {
	item := []int{1}
	for _, c := range []struct {
		i api.Instance
		e api.Errno
	}{
		{api.Instance{}, api.ErrKind}, {api.Instance{Kind: 4, N: 1, Cost: [][]int{{0}}}, api.ErrKind}, {api.Instance{Kind: -3, N: -1}, api.ErrKind},
		{api.Instance{Kind: 3}, api.ErrArg}, {api.Instance{Kind: 3, N: -1}, api.ErrArg}, {api.Instance{Kind: 1, N: 0}, api.ErrArg}, {api.Instance{Kind: 2, N: math.MinInt}, api.ErrArg},
		{even(25, 1), api.ErrBig}, {api.Instance{Kind: 3, N: 25}, api.ErrBig}, {api.Instance{Kind: 1, N: 65}, api.ErrBig}, {api.Instance{Kind: 2, N: math.MaxInt}, api.ErrBig},
		{api.Instance{Kind: 3, N: 1}, api.ErrForm}, {api.Instance{Kind: 3, N: 2, Cost: [][]int{{0, 2}, {0}}}, api.ErrForm}, {api.Instance{Kind: 3, N: 1, Cost: [][]int{{-1, 2}}}, api.ErrForm},
		{api.Instance{Kind: 3, N: 1, Cap: 1, Cost: [][]int{{-1}}}, api.ErrForm}, {api.Instance{Kind: 3, N: 1, Weight: item, Cost: [][]int{{0}}}, api.ErrForm}, {api.Instance{Kind: 3, N: 1, Value: item, Cost: [][]int{{0}}}, api.ErrForm},
		{square([]int{5}), api.ErrForm}, {square([]int{0, 1}, []int{1, 5}), api.ErrForm}, {square([]int{1, -1}, []int{1, 0}), api.ErrForm}, {api.Instance{Kind: 1, N: 1}, api.ErrForm}, {api.Instance{Kind: 2, N: 1}, api.ErrForm},
		{square([]int{-1}), api.ErrArg}, {square([]int{0, -2}, []int{1 << 31, 5}), api.ErrArg}, {api.Instance{Kind: 1, N: 1, Cap: -1, Weight: item, Value: item}, api.ErrArg},
		{square([]int{1 << 31}), api.ErrBig}, {square([]int{0, 1 << 31}, []int{-2, 5}), api.ErrBig}, {square([]int{0, 1}, []int{math.MaxInt, 0}), api.ErrBig},
		{api.Instance{Kind: 1, N: 1, Weight: item, Value: item}, api.ErrKind}, {api.Instance{Kind: 2, N: 1, Cost: [][]int{{0}}}, api.ErrKind}, {api.Instance{Kind: 2, N: 2, Cost: [][]int{{0, 7}, {7, 0}}}, api.ErrKind},
	} {
		if e := inst.Check(c.i); e != api.OK && e != c.e {
			t.Errorf("Check(%v) = %d", c.i, e)
		}
		if k, e := tour.New(c.i); k != nil || e != c.e {
			t.Errorf("New(%v) = %v, %d, not %d", c.i, k, e, c.e)
		}
	}
}

// A kernel keeps its answers, whatever becomes of its problem, and of the lists that it handed out.
func TestKernelsKeepTheirAnswers(t *testing.T) {
	r := rand.New(rand.NewSource(44))
	for round := range 30 {
		i := draw(r, 5, 9, round%2 == 0)
		kept := inst.Copy(i)
		k := kernelOf(t, i)
		for a, row := range i.Cost { // which ends what symmetry there was
			for b := range row {
				row[b] = 9*a + b
			}
		}
		i.Cost[0] = []int{70, 71, 72, 73, 74}
		walk(k, nil, func(p []int) {
			hold(t, kept, k, p)
			for _, call := range []func([]int) ([]int, api.Errno){k.Kids, k.Answer} {
				before := slices.Clone(p)
				list, _ := call(p)
				for at := range list[:cap(list)] {
					list[:cap(list)][at] = -7
				}
				if !slices.Equal(p, before) {
					t.Fatalf("%v became %v", before, p)
				}
			}
			hold(t, kept, k, p)
		})
	}
}

// Neither lists nor what stands behind them are changed.
func TestArgumentsStay(t *testing.T) {
	r := rand.New(rand.NewSource(45))
	for round := range 50 {
		i := draw(r, 5, 9, round%2 == 0)
		i.Cost = slices.Grow(i.Cost, 2)
		for a := range i.Cost {
			i.Cost[a] = slices.Grow(i.Cost[a], 2)
		}
		p := make([]int, 0, 9)
		for _, city := range r.Perm(4) {
			p = append(p, city+1)
		}
		tell := func() string {
			var behind [][]int
			for _, row := range i.Cost {
				behind = append(behind, row[:cap(row)])
			}
			return fmt.Sprint(i, i.Cost[:cap(i.Cost)], behind, p[:9])
		}
		before := tell()
		k := kernelOf(t, i)
		for length := range 9 {
			k.Kids(p[:length])
			k.Bound(p[:length])
			k.Answer(p[:length])
		}
		if after := tell(); after != before {
			t.Fatalf("%s became %s", before, after)
		}
	}
}
