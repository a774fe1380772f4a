package assign_test

import (
	"fmt"
	"math"
	"math/rand"
	"slices"
	"testing"

	"kurgan/api"
	"kurgan/assign"
	"kurgan/inst"
	"kurgan/value"
)

func square(rows ...[]int) api.Instance {
	return api.Instance{Kind: 2, N: len(rows), Cost: rows}
}

func draw(r *rand.Rand, n, top int) api.Instance {
	var rows [][]int
	for range n {
		row := []int{}
		for range n {
			row = append(row, r.Intn(top))
		}
		rows = append(rows, row)
	}
	return square(rows...)
}

func isPrefix(i api.Instance, p []int) bool {
	for at, n := range p {
		if at >= i.N || n < 0 || n >= i.N || slices.Contains(p[:at], n) {
			return false
		}
	}
	return true
}

// bound is the chapter's C + A + B: the matrix is written out, and changed row by row.
func bound(i api.Instance, p []int) int {
	sum := 0
	for row, column := range p {
		sum += i.Cost[row][column]
	}
	var matrix [][]int
	for _, costs := range i.Cost[len(p):] {
		var row []int
		for column, cost := range costs {
			if !slices.Contains(p, column) {
				row = append(row, cost)
			}
		}
		matrix = append(matrix, row)
	}
	for _, row := range matrix {
		least := slices.Min(row)
		sum += least
		for column := range row {
			row[column] -= least
		}
	}
	for column := range matrix {
		var l []int
		for _, row := range matrix {
			l = append(l, row[column])
		}
		sum += slices.Min(l)
	}
	return sum
}

// kids: each time the last of the free columns that no other one is below.
func kids(i api.Instance, p []int) []int {
	var l []int
	for len(p)+len(l) < i.N {
		best := -1
		for c := i.N - 1; c >= 0; c-- {
			if !slices.Contains(p, c) && !slices.Contains(l, c) && (best < 0 || i.Cost[len(p)][c] <= i.Cost[len(p)][best]) {
				best = c
			}
		}
		l = append(l, best)
	}
	return l
}

func kernelOf(t *testing.T, i api.Instance) *assign.Kernel {
	t.Helper()
	k, e := assign.New(i)
	if e != api.OK || k == nil {
		t.Fatalf("New(%v) = %v, %d", i, k, e)
	}
	if k.Depth() != i.N {
		t.Fatalf("Depth of %v is %d", i, k.Depth())
	}
	return k
}

// hold holds all that a kernel answers to a list against the chapter's words.
func hold(t *testing.T, i api.Instance, k *assign.Kernel, p []int) {
	t.Helper()
	if !isPrefix(i, p) {
		refuse(t, k, p)
		return
	}
	if l, e := k.Kids(p); !slices.Equal(l, kids(i, p)) || e != api.OK {
		t.Fatalf("%v: Kids(%v) = %v, %d, not %v", i, p, l, e, kids(i, p))
	}
	if b, e := k.Bound(p); b != bound(i, p) || e != api.OK {
		t.Fatalf("%v: Bound(%v) = %d, %d, not %d", i, p, b, e, bound(i, p))
	}
	var x []int
	want := api.ErrArg
	if len(p) == i.N {
		x, want = p, api.OK
	}
	if y, e := k.Answer(p); !slices.Equal(y, x) || e != want {
		t.Fatalf("%v: Answer(%v) = %v, %d, not %v, %d", i, p, y, e, x, want)
	}
}

func refuse(t *testing.T, k *assign.Kernel, p []int) {
	t.Helper()
	if l, e := k.Kids(p); len(l) != 0 || e != api.ErrArg {
		t.Fatalf("Kids(%v) = %v, %d", p, l, e)
	}
	if b, e := k.Bound(p); b != 0 || e != api.ErrArg {
		t.Fatalf("Bound(%v) = %d, %d", p, b, e)
	}
	if x, e := k.Answer(p); len(x) != 0 || e != api.ErrArg {
		t.Fatalf("Answer(%v) = %v, %d", p, x, e)
	}
}

// lists: all lists of so many numbers out of those.
func lists(n int, numbers ...int) [][]int {
	if n == 0 {
		return [][]int{{}}
	}
	var out [][]int
	for _, l := range lists(n-1, numbers...) {
		for _, k := range numbers {
			out = append(out, append(slices.Clone(l), k))
		}
	}
	return out
}

func TestAllShortLists(t *testing.T) {
	r := rand.New(rand.NewSource(30))
	for n := 1; n <= 4; n++ {
		for _, top := range []int{1, 2, 4, 100} {
			for range 5 {
				i := draw(r, n, top)
				k := kernelOf(t, i)
				hold(t, i, k, nil)
				for length := range n + 2 {
					for _, p := range lists(length, -1, 0, 1, 2, 3, 4) {
						hold(t, i, k, p)
					}
				}
			}
		}
	}
}

func TestExamples(t *testing.T) {
	two := square([]int{1, 2}, []int{3, 9}) // the document's example
	equal := square([]int{5, 5, 5}, []int{4, 3, 4}, []int{7, 6, 6})
	for _, c := range []struct {
		i       api.Instance
		p, kids []int
		bound   int
	}{
		{two, nil, []int{0, 1}, 5}, {two, []int{0}, []int{1}, 10}, {two, []int{1}, []int{0}, 5}, {two, []int{0, 1}, nil, 10}, {two, []int{1, 0}, nil, 5},
		{equal, nil, []int{0, 1, 2}, 5 + 3 + 6}, {equal, []int{0}, []int{1, 2}, 5 + 3 + 6}, {equal, []int{1}, []int{0, 2}, 5 + 4 + 6}, {equal, []int{2, 1}, []int{0}, 5 + 3 + 7}, {equal, []int{0, 2}, []int{1}, 5 + 4 + 6},
		{square([]int{9, 8, 8}, []int{2, 1, 0}, []int{3, 2, 1}), nil, []int{1, 2, 0}, 8 + 0 + 1 + 1}, // each column but the first is the least of a row
		{square([]int{7}), nil, []int{0}, 7}, {square([]int{7}), []int{0}, nil, 7}, {square([]int{0}), nil, []int{0}, 0},
	} {
		k := kernelOf(t, c.i)
		hold(t, c.i, k, c.p)
		l, _ := k.Kids(c.p)
		b, _ := k.Bound(c.p)
		if !slices.Equal(l, c.kids) || b != c.bound {
			t.Errorf("%v: Kids(%v) = %v, Bound %d", c.i, c.p, l, b)
		}
	}
}

// walk calls visit for each prefix that the kernel leads to.
func walk(k *assign.Kernel, p []int, visit func(p []int)) {
	visit(p)
	l, _ := k.Kids(p)
	for _, n := range l {
		walk(k, append(slices.Clone(p), n), visit)
	}
}

// endings: all lists of the columns that a prefix leaves.
func endings(n int, p []int) [][]int {
	if len(p) == n {
		return [][]int{p}
	}
	var all [][]int
	for c := range n {
		if !slices.Contains(p, c) {
			all = append(all, endings(n, append(slices.Clone(p), c))...)
		}
	}
	return all
}

// For each prefix of small problems: what all solutions cost that begin so; and each solution is that of one complete prefix.
func TestNoSolutionIsBelowItsBounds(t *testing.T) {
	r := rand.New(rand.NewSource(31))
	for n := 1; n <= 5; n++ {
		for _, top := range []int{1, 2, 3, 10, 1000, 1 << 31} {
			for range 4 {
				i := draw(r, n, top)
				k := kernelOf(t, i)
				seen := map[string]bool{}
				walk(k, nil, func(p []int) {
					hold(t, i, k, p)
					b, _ := k.Bound(p)
					for _, x := range endings(n, p) {
						cost, e := value.Cost(i, x)
						if e != api.OK || cost < b || len(p) == n && cost != b {
							t.Fatalf("%v: Bound(%v) = %d, but %v costs %d, %d", i, p, b, x, cost, e)
						}
					}
					if x, e := k.Answer(p); e == api.OK {
						if seen[fmt.Sprint(x)] {
							t.Fatalf("%v: %v is met twice", i, x)
						}
						seen[fmt.Sprint(x)] = true
					}
				})
				for _, x := range endings(n, nil) {
					if !seen[fmt.Sprint(x)] {
						t.Fatalf("%v: %v is never met", i, x)
					}
				}
			}
		}
	}
}

func TestGreatProblems(t *testing.T) {
	r := rand.New(rand.NewSource(32))
	for _, n := range []int{23, 24} {
		var greatest [][]int
		for range n {
			greatest = append(greatest, slices.Repeat([]int{math.MaxInt32}, n))
		}
		for _, i := range []api.Instance{draw(r, n, 3), draw(r, n, 1000), draw(r, n, 1<<31), square(greatest...)} {
			k := kernelOf(t, i)
			for range 10 {
				p := r.Perm(n)
				for length := range n + 1 {
					hold(t, i, k, p[:length])
				}
				hold(t, i, k, append(p, 0))
				hold(t, i, k, append(p, n))
			}
		}
		if b, e := kernelOf(t, square(greatest...)).Bound(nil); b != n*math.MaxInt32 || e != api.OK {
			t.Error(b, e)
		}
	}
}

// far: numbers that fall on others, or on none, if only their lowest bits are looked at.
func far(n int) []int {
	return []int{math.MinInt, math.MinInt + 1, -128, -64, -1, n, 63, 64, 65, 127, 128, 129, 256, 1 << 32, 1<<32 + 1, math.MaxInt}
}

func TestNoPrefixes(t *testing.T) {
	i := square([]int{1, 2, 3}, []int{3, 9, 4}, []int{5, 6, 8})
	k := kernelOf(t, i)
	for _, n := range far(3) { // out of range, at each place
		for _, p := range [][]int{{n}, {n, 0}, {0, n}, {0, 1, n}, {n, 1, 2}, {2, n, 0}} {
			refuse(t, k, p)
		}
	}
	for _, p := range [][]int{
		{0, 0}, {2, 2}, {0, 1, 0}, {0, 1, 1}, {1, 1, 2}, {2, 0, 2}, // one twice
		{0, 1, 2, 0}, {0, 1, 2, 3}, {2, 1, 0, 0}, {0, 0, 0, 0}, make([]int, 24), make([]int, 25), make([]int, 100000), // too long
	} {
		refuse(t, k, p)
	}
	for _, p := range [][]int{nil, {}, {0}, {2, 1}} { // prefixes, but none of them complete
		if x, e := k.Answer(p); len(x) != 0 || e != api.ErrArg {
			t.Errorf("Answer(%v) = %v, %d", p, x, e)
		}
	}
}

func TestNilKernels(t *testing.T) {
	for _, k := range []*assign.Kernel{nil, {}} {
		if k.Depth() != 0 {
			t.Error(k.Depth())
		}
		for _, p := range [][]int{nil, {}, {0}, {1}, {0, 1}, {-1}, make([]int, 65)} {
			refuse(t, k, p)
		}
	}
}

// The errors of inst.Check come first; a valid problem of another kind is of no use here.
func TestWrongProblems(t *testing.T) {
	item := []int{1}
	many := make([][]int, 25)
	for row := range many {
		many[row] = make([]int, 25)
	}
	for _, c := range []struct {
		i api.Instance
		e api.Errno
	}{
		{api.Instance{}, api.ErrKind}, {api.Instance{Kind: 4, N: 1, Cost: [][]int{{1}}}, api.ErrKind}, {api.Instance{Kind: -2, N: -1}, api.ErrKind},
		{api.Instance{Kind: 2}, api.ErrArg}, {api.Instance{Kind: 2, N: -1}, api.ErrArg}, {api.Instance{Kind: 1, N: 0}, api.ErrArg}, {api.Instance{Kind: 3, N: math.MinInt}, api.ErrArg},
		{square(many...), api.ErrBig}, {api.Instance{Kind: 2, N: 25}, api.ErrBig}, {api.Instance{Kind: 1, N: 65}, api.ErrBig}, {api.Instance{Kind: 3, N: math.MaxInt}, api.ErrBig},
		{api.Instance{Kind: 2, N: 1}, api.ErrForm}, {api.Instance{Kind: 2, N: 2, Cost: [][]int{{1, 2}, {3}}}, api.ErrForm}, {api.Instance{Kind: 2, N: 1, Cost: [][]int{{-1, 2}}}, api.ErrForm},
		{api.Instance{Kind: 2, N: 1, Cap: 1, Cost: [][]int{{-1}}}, api.ErrForm}, {api.Instance{Kind: 2, N: 1, Weight: item, Cost: [][]int{{1}}}, api.ErrForm}, {api.Instance{Kind: 2, N: 1, Value: item, Cost: [][]int{{1}}}, api.ErrForm},
		{api.Instance{Kind: 1, N: 1}, api.ErrForm}, {api.Instance{Kind: 3, N: 1, Cost: [][]int{{5}}}, api.ErrForm},
		{square([]int{-1}), api.ErrArg}, {square([]int{1, -2}, []int{1 << 31, 5}), api.ErrArg}, {api.Instance{Kind: 1, N: 1, Cap: -1, Weight: item, Value: item}, api.ErrArg},
		{square([]int{1 << 31}), api.ErrBig}, {square([]int{1, 1 << 31}, []int{-2, 5}), api.ErrBig}, {square([]int{math.MaxInt}), api.ErrBig},
		{api.Instance{Kind: 1, N: 1, Weight: item, Value: item}, api.ErrKind}, {api.Instance{Kind: 3, N: 1, Cost: [][]int{{0}}}, api.ErrKind}, {api.Instance{Kind: 3, N: 2, Cost: [][]int{{0, 7}, {7, 0}}}, api.ErrKind},
	} {
		if e := inst.Check(c.i); e != api.OK && e != c.e {
			t.Errorf("Check(%v) = %d", c.i, e)
		}
		if k, e := assign.New(c.i); k != nil || e != c.e {
			t.Errorf("New(%v) = %v, %d, not %d", c.i, k, e, c.e)
		}
	}
}

// A kernel keeps its answers, whatever becomes of its problem, and of the lists that it handed out.
func TestKernelsKeepTheirAnswers(t *testing.T) {
	r := rand.New(rand.NewSource(33))
	for range 20 {
		i := draw(r, 4, 9)
		kept := inst.Copy(i)
		k := kernelOf(t, i)
		for _, row := range i.Cost {
			for column := range row {
				row[column] = 9 - row[column]
			}
		}
		i.Cost[0] = []int{70, 71, 72, 73}
		walk(k, nil, func(p []int) {
			hold(t, kept, k, p)
			for _, call := range []func([]int) ([]int, api.Errno){k.Kids, k.Answer} {
				before := slices.Clone(p)
				list, _ := call(p)
				for at := range list[:cap(list)] {
					list[:cap(list)][at] = -7
				}
				if !slices.Equal(p, before) {
					t.Fatalf("%v became %v", before, p)
				}
			}
			hold(t, kept, k, p)
		})
	}
}

// Neither lists nor what stands behind them are changed.
func TestArgumentsStay(t *testing.T) {
	r := rand.New(rand.NewSource(34))
	for range 50 {
		i := draw(r, 4, 9)
		i.Cost = slices.Grow(i.Cost, 2)
		for a := range i.Cost {
			i.Cost[a] = slices.Grow(i.Cost[a], 2)
		}
		p := append(make([]int, 0, 9), r.Perm(4)...)
		tell := func() string {
			var behind [][]int
			for _, row := range i.Cost {
				behind = append(behind, row[:cap(row)])
			}
			return fmt.Sprint(i, i.Cost[:cap(i.Cost)], behind, p[:9])
		}
		before := tell()
		k := kernelOf(t, i)
		for length := range 9 {
			k.Kids(p[:length])
			k.Bound(p[:length])
			k.Answer(p[:length])
		}
		if after := tell(); after != before {
			t.Fatalf("%s became %s", before, after)
		}
	}
}
