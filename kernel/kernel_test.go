package kernel_test

import (
	"fmt"
	"math"
	"math/big"
	"math/rand"
	"slices"
	"testing"

	"kurgan/api"
	"kurgan/assign"
	"kurgan/inst"
	"kurgan/kernel"
	"kurgan/knap"
	"kurgan/tour"
	"kurgan/value"
)

func knapsack(room int, weight, worth []int) api.Instance {
	return api.Instance{Kind: 1, N: len(weight), Cap: room, Weight: weight, Value: worth}
}

func square(kind int, rows ...[]int) api.Instance {
	return api.Instance{Kind: kind, N: len(rows), Cost: rows}
}

// all is a problem of a kind and a size whose numbers are what number draws.
func all(kind, n, room int, number func() int) api.Instance {
	numbers := func() []int {
		l := []int{}
		for range n {
			l = append(l, number())
		}
		return l
	}
	if kind == 1 {
		return knapsack(room, numbers(), numbers())
	}
	var rows [][]int
	for a := range n {
		row := numbers()
		if kind == 3 {
			row[a] = 0
		}
		rows = append(rows, row)
	}
	return square(kind, rows...)
}

func draw(r *rand.Rand, kind, n, top int) api.Instance {
	return all(kind, n, r.Intn(min(n*top*2/3+1, 1<<31)), func() int { return r.Intn(top) })
}

// face: what all kernels can do.
type face interface {
	Depth() int
	Kids(p []int) ([]int, api.Errno)
	Bound(p []int) (int, api.Errno)
	Answer(p []int) ([]int, api.Errno)
}

// layer is the kernel of the layer of the problem's kind.
func layer(t *testing.T, i api.Instance) face {
	t.Helper()
	var f face
	var e api.Errno
	switch i.Kind {
	case 1:
		f, e = knap.New(i)
	case 2:
		f, e = assign.New(i)
	default:
		f, e = tour.New(i)
	}
	if e != api.OK {
		t.Fatalf("New(%v): %d", i, e)
	}
	return f
}

func kernelOf(t *testing.T, i api.Instance) *kernel.Kernel {
	t.Helper()
	k, e := kernel.Of(i)
	if e != api.OK || k == nil {
		t.Fatalf("Of(%v) = %v, %d", i, k, e)
	}
	return k
}

// hold holds what a kernel answers to a list against what another one answers.
func hold(t *testing.T, k, other face, p []int) {
	t.Helper()
	if k.Depth() != other.Depth() {
		t.Fatalf("Depth is %d, not %d", k.Depth(), other.Depth())
	}
	a, e := k.Kids(p)
	if b, e2 := other.Kids(p); !slices.Equal(a, b) || e != e2 {
		t.Fatalf("Kids(%v) = %v, %d, not %v, %d", p, a, e, b, e2)
	}
	m, e := k.Bound(p)
	if n, e2 := other.Bound(p); m != n || e != e2 {
		t.Fatalf("Bound(%v) = %d, %d, not %d, %d", p, m, e, n, e2)
	}
	a, e = k.Answer(p)
	if b, e2 := other.Answer(p); !slices.Equal(a, b) || e != e2 {
		t.Fatalf("Answer(%v) = %v, %d, not %v, %d", p, a, e, b, e2)
	}
}

// lists: all lists of so many numbers out of those.
func lists(n int, numbers ...int) [][]int {
	if n == 0 {
		return [][]int{{}}
	}
	var out [][]int
	for _, l := range lists(n-1, numbers...) {
		for _, k := range numbers {
			out = append(out, append(slices.Clone(l), k))
		}
	}
	return out
}

// inner: what Knapsack, Assignment and Tour answer; nil, not a nil kernel, beside an error.
func inner(k *kernel.Kernel) (l [3]face, errors [3]api.Errno) {
	a, e := kernel.Knapsack(k)
	if errors[0] = e; a != nil {
		l[0] = a
	}
	b, e := kernel.Assignment(k)
	if errors[1] = e; b != nil {
		l[1] = b
	}
	c, e := kernel.Tour(k)
	if errors[2] = e; c != nil {
		l[2] = c
	}
	return l, errors
}

func TestEachKindAnswersAsItsLayer(t *testing.T) {
	r := rand.New(rand.NewSource(50))
	for kind := 1; kind <= 3; kind++ {
		for n := 1; n <= 4; n++ {
			for range 5 {
				i := draw(r, kind, n, 7)
				k, other := kernelOf(t, i), layer(t, i)
				if got := kernel.Kind(k); got != kind {
					t.Fatalf("Kind is %d, not %d", got, kind)
				}
				l, errors := inner(k)
				for at, e := range errors {
					if at+1 == kind && (e != api.OK || l[at] == nil) || at+1 != kind && (e != api.ErrKind || l[at] != nil) {
						t.Fatalf("of kind %d the kernel of kind %d: %v, %d", kind, at+1, l[at], e)
					}
				}
				for length := range n + 2 {
					for _, p := range lists(length, -1, 0, 1, 2, 3, 4) {
						hold(t, k, other, p)
						hold(t, l[kind-1], other, p)
					}
				}
				hold(t, k, other, nil)
			}
		}
	}
}

func TestGreatestProblems(t *testing.T) {
	const most = math.MaxInt32
	r := rand.New(rand.NewSource(51))
	for kind := 1; kind <= 3; kind++ {
		n := 24
		if kind == 1 {
			n = 64
		}
		for _, i := range []api.Instance{draw(r, kind, n, 1<<31), all(kind, n, most, func() int { return most })} {
			k, other := kernelOf(t, i), layer(t, i)
			for range 10 {
				p := []int{}
				for len(p) < k.Depth() {
					hold(t, k, other, p)
					kids, _ := k.Kids(p)
					p = append(p, kids[r.Intn(len(kids))])
				}
				hold(t, k, other, p)
				hold(t, k, other, append(p, 0))
			}
		}
	}
}

func TestNilKernels(t *testing.T) {
	for _, k := range []*kernel.Kernel{nil, {}} {
		if k.Depth() != 0 || kernel.Kind(k) != 0 {
			t.Error(k.Depth(), kernel.Kind(k))
		}
		for _, p := range [][]int{nil, {}, {0}, {1}, {0, 1}, {-1}, make([]int, 65)} {
			if l, e := k.Kids(p); len(l) != 0 || e != api.ErrArg {
				t.Errorf("Kids(%v) = %v, %d", p, l, e)
			}
			if b, e := k.Bound(p); b != 0 || e != api.ErrArg {
				t.Errorf("Bound(%v) = %d, %d", p, b, e)
			}
			if x, e := k.Answer(p); len(x) != 0 || e != api.ErrArg {
				t.Errorf("Answer(%v) = %v, %d", p, x, e)
			}
		}
		l, errors := inner(k)
		for at, e := range errors {
			if l[at] != nil || e != api.ErrKind {
				t.Errorf("of none the kernel of kind %d: %v, %d", at+1, l[at], e)
			}
		}
		for _, steps := range []int{math.MinInt, -1, 0, 1, 100, math.MaxInt} {
			for _, cost := range []int{math.MinInt, -1, 0, 5, math.MaxInt} {
				if p, best, done := kernel.Better(k, cost, steps); len(p) != 0 || best != cost || done {
					t.Errorf("Better(nil, %d, %d) = %v, %d, %t", cost, steps, p, best, done)
				}
			}
		}
	}
}

// wrong: a problem for each error of inst.Check, and for each kind.
func wrong() []api.Instance {
	return []api.Instance{
		{}, {Kind: 4, N: 1, Value: []int{3}}, {Kind: -1}, {Kind: math.MinInt, N: 1},
		{Kind: 1}, {Kind: 2, N: -1}, {Kind: 3, N: math.MinInt},
		{Kind: 1, N: 65}, {Kind: 2, N: 25}, {Kind: 3, N: math.MaxInt},
		{Kind: 1, N: 1}, {Kind: 1, N: 2, Weight: []int{1, 1}, Value: []int{1}}, {Kind: 1, N: 1, Weight: []int{1}, Value: []int{1}, Cost: [][]int{{0}}},
		{Kind: 2, N: 2, Cost: [][]int{{1, 2}, {3}}}, {Kind: 2, N: 1}, {Kind: 3, N: 1, Cost: [][]int{{}}}, {Kind: 3, N: 1, Cap: 1, Cost: [][]int{{0}}},
		{Kind: 2, N: 1, Cost: [][]int{{1}}, Value: []int{1}},
		knapsack(-1, []int{1}, []int{1}), knapsack(1, []int{-1}, []int{1}), knapsack(1, []int{1}, []int{-1}), square(2, []int{-1}), square(3, []int{-1}),
		knapsack(1<<31, []int{1}, []int{1}), knapsack(1, []int{1 << 31}, []int{1}), knapsack(1, []int{1}, []int{math.MaxInt}), square(2, []int{1 << 31}),
		square(3, []int{1}), square(3, []int{0, 1}, []int{1, 5}),
	}
}

func TestWrongProblems(t *testing.T) {
	met := map[api.Errno]int{}
	for _, i := range wrong() {
		want := inst.Check(i)
		met[want]++
		if k, e := kernel.Of(i); k != nil || e != want {
			t.Errorf("Of(%v) = %v, %d, not %d", i, k, e, want)
		}
		if n := kernel.Count(i); n != math.MaxInt {
			t.Errorf("Count(%v) = %d", i, n)
		}
	}
	for _, e := range []api.Errno{api.ErrKind, api.ErrArg, api.ErrBig, api.ErrForm} {
		if met[e] == 0 {
			t.Error("no problem is wrong in this way:", e)
		}
	}
	if met[api.OK] != 0 {
		t.Error("a valid problem among the wrong ones")
	}
}

// count is the chapter's number, of any size.
func count(kind, n int) *big.Int {
	one := big.NewInt(1)
	if kind == 1 {
		number := new(big.Int).Lsh(one, uint(n+1))
		return number.Sub(number, one)
	}
	d := n
	if kind == 3 {
		d = n - 1
	}
	sum := new(big.Int)
	for m := range d + 1 {
		orders := big.NewInt(1) // d! / (d - m)!
		for k := range m {
			orders.Mul(orders, big.NewInt(int64(d-k)))
		}
		sum.Add(sum, orders)
	}
	return sum
}

func TestCount(t *testing.T) {
	fits := [3]int{} // the greatest N whose number is an int
	for kind := 1; kind <= 3; kind++ {
		most := 24
		if kind == 1 {
			most = 64
		}
		for n := 1; n <= most; n++ {
			want := math.MaxInt
			if number := count(kind, n); number.IsInt64() {
				want, fits[kind-1] = int(number.Int64()), n
			}
			i := all(kind, n, 5, func() int { return 3 })
			if got := kernel.Count(i); got != want {
				t.Errorf("Count for kind %d, %d is %d, not %d", kind, n, got, want)
			}
		}
		if got := kernel.Count(all(kind, most+1, 5, func() int { return 3 })); got != math.MaxInt {
			t.Errorf("Count for kind %d, %d is %d", kind, most+1, got)
		}
	}
	if fits != [3]int{62, 20, 21} {
		t.Error(fits)
	}
	for _, c := range []struct{ kind, n, want int }{
		{1, 1, 3}, {1, 3, 15}, {1, 61, 1<<62 - 1}, {1, 62, math.MaxInt}, {1, 63, math.MaxInt},
		{2, 1, 2}, {2, 2, 5}, {2, 3, 16}, {3, 1, 1}, {3, 2, 2}, {3, 4, 16},
		{2, 20, 6613313319248080001}, {3, 21, 6613313319248080001}, {2, 21, math.MaxInt}, {3, 22, math.MaxInt},
	} {
		if got := kernel.Count(all(c.kind, c.n, 5, func() int { return 3 })); got != c.want {
			t.Errorf("Count for kind %d, %d is %d, not %d", c.kind, c.n, got, c.want)
		}
	}
}

// walk calls visit for each prefix that the kernel leads to.
func walk(k face, p []int, visit func(p []int)) {
	visit(p)
	kids, _ := k.Kids(p)
	for _, n := range kids {
		walk(k, append(slices.Clone(p), n), visit)
	}
}

// There are as many prefixes as Count says, but for those of a Knapsack that are too heavy.
func TestCountsPrefixes(t *testing.T) {
	r := rand.New(rand.NewSource(52))
	for kind := 1; kind <= 3; kind++ {
		for n := 1; n <= 6; n++ {
			for range 5 {
				i := draw(r, kind, n, 9)
				if kind == 1 && r.Intn(2) == 0 {
					i.Cap = math.MaxInt32
				}
				met := 0
				walk(kernelOf(t, i), nil, func([]int) { met++ })
				number := kernel.Count(i)
				if met > number || met < number && (kind != 1 || i.Cap == math.MaxInt32) {
					t.Errorf("%v: %d prefixes, and Count says %d", i, met, number)
				}
			}
		}
	}
}

// costs: those of all solutions of a small problem, by their texts.
func costs(i api.Instance) map[string]int {
	all := map[string]int{}
	var numbers []int
	for n := range max(i.N, 2) {
		numbers = append(numbers, n)
	}
	for _, x := range lists(i.N, numbers...) {
		if cost, e := value.Cost(i, x); e == api.OK {
			all[fmt.Sprint(x)] = cost
		}
	}
	return all
}

func TestNoSolutionIsBelowItsBounds(t *testing.T) {
	r := rand.New(rand.NewSource(53))
	for kind := 1; kind <= 3; kind++ {
		for n := 1; n <= 4; n++ {
			for range 5 {
				i := draw(r, kind, n, 9)
				k, left := kernelOf(t, i), costs(i)
				walk(k, nil, func(p []int) {
					bound, _ := k.Bound(p)
					walk(k, p, func(q []int) {
						if end, _ := k.Bound(q); len(q) == k.Depth() && end < bound {
							t.Fatalf("%v: Bound(%v) = %d, and Bound(%v) = %d", i, p, bound, q, end)
						}
					})
					x, e := k.Answer(p)
					if e != api.OK {
						return
					}
					if cost, ok := left[fmt.Sprint(x)]; !ok || cost != bound {
						t.Fatalf("%v: %v answers %v, of the cost %d (%t), and not %d", i, p, x, cost, ok, bound)
					}
					delete(left, fmt.Sprint(x))
				})
				if len(left) != 0 {
					t.Fatalf("%v: no prefix answers %v", i, left)
				}
			}
		}
	}
}

// result is what Better answers.
type result struct {
	p    []int
	best int
	done bool
}

// search is the chapter's search, prefix by prefix; and how many of its steps were made.
func search(k face, cost, steps int) (result, int) {
	all := result{best: cost, done: true}
	made := 0
	var examine func(p []int)
	examine = func(p []int) {
		if made == steps {
			all.done = false
			return
		}
		made++
		bound, _ := k.Bound(p)
		if bound >= all.best {
			return
		}
		if len(p) == k.Depth() {
			all.p, all.best = p, bound
			return
		}
		kids, _ := k.Kids(p)
		for _, n := range kids {
			examine(append(slices.Clone(p), n))
		}
	}
	examine([]int{})
	return all, made
}

func holdBetter(t *testing.T, i api.Instance, k *kernel.Kernel, cost, steps int) {
	t.Helper()
	p, best, done := kernel.Better(k, cost, steps)
	want, _ := search(k, cost, steps)
	if !slices.Equal(p, want.p) || best != want.best || done != want.done {
		t.Fatalf("%v: Better(%d, %d) = %v, %d, %t, not %v", i, cost, steps, p, best, done, want)
	}
}

// Each number of steps there may be, and a cost at, below and above the best one's.
func TestBetter(t *testing.T) {
	r := rand.New(rand.NewSource(54))
	for kind := 1; kind <= 3; kind++ {
		for n := 1; n <= 5; n++ {
			for _, top := range []int{1, 3, 100} {
				for range 3 {
					i := draw(r, kind, n, top)
					k := kernelOf(t, i)
					end, _ := search(k, math.MaxInt, -1)
					for _, cost := range []int{math.MinInt, -1, 0, end.best - 1, end.best, end.best + 1, end.best + 2, value.Total(i), value.Total(i) + 1, math.MaxInt} {
						_, made := search(k, cost, -1)
						for steps := range made + 2 {
							holdBetter(t, i, k, cost, steps)
						}
						holdBetter(t, i, k, cost, math.MaxInt)
						for _, steps := range []int{math.MinInt, -2, -1} {
							if p, best, done := kernel.Better(k, cost, steps); len(p) != 0 || best != cost || done {
								t.Fatalf("%v: Better(%d, %d) = %v, %d, %t", i, cost, steps, p, best, done)
							}
						}
					}
				}
			}
		}
	}
}

// A search that is done finds a best solution, if what it begins with is worse; else it finds none.
func TestBetterFindsABestSolution(t *testing.T) {
	r := rand.New(rand.NewSource(55))
	for kind := 1; kind <= 3; kind++ {
		for n := 1; n <= 5; n++ {
			for range 10 {
				i := draw(r, kind, n, 20)
				k, all, least := kernelOf(t, i), costs(i), math.MaxInt
				for _, cost := range all {
					least = min(least, cost)
				}
				for _, cost := range []int{least + 1, least + 5, value.Total(i) + 1, math.MaxInt} {
					p, best, done := kernel.Better(k, cost, kernel.Count(i))
					x, e := k.Answer(p)
					if !done || best != least || e != api.OK || all[fmt.Sprint(x)] != least {
						t.Fatalf("%v: Better(%d) = %v, %d, %t, of %v, %d; the best cost is %d", i, cost, p, best, done, x, e, least)
					}
				}
				for _, cost := range []int{least, least - 1, 0, -1, math.MinInt} {
					if cost > least {
						continue
					}
					if p, best, done := kernel.Better(k, cost, kernel.Count(i)); len(p) != 0 || best != cost || !done {
						t.Fatalf("%v: Better(%d) = %v, %d, %t; the best cost is %d", i, cost, p, best, done, least)
					}
				}
			}
		}
	}
}

func TestBetterStepByStep(t *testing.T) {
	two := square(2, []int{1, 2}, []int{3, 9}) // whose empty prefix and 1 have the Bound 5, and 0 has 10
	items := knapsack(4, []int{2, 3}, []int{4, 3})
	most := all(2, 24, 0, func() int { return math.MaxInt32 })
	for _, c := range []struct {
		i           api.Instance
		cost, steps int
		p           []int
		best        int
		done        bool
	}{
		{two, 100, 0, nil, 100, false},
		{two, 100, 1, nil, 100, false},
		{two, 100, 2, nil, 100, false},
		{two, 100, 3, []int{0, 1}, 10, false},
		{two, 100, 4, []int{0, 1}, 10, false},
		{two, 100, 5, []int{1, 0}, 5, true},
		{two, 10, 2, nil, 10, false}, // 0 is not better, and nothing below it is examined
		{two, 10, 4, []int{1, 0}, 5, true},
		{two, 6, 4, []int{1, 0}, 5, true},
		{two, 6, 3, nil, 6, false},
		{two, 5, 1, nil, 5, true}, // the empty prefix is the last one
		{two, 5, 0, nil, 5, false},
		{two, -1, 9, nil, -1, true},
		{two, math.MinInt, 1, nil, math.MinInt, true},
		{items, 8, 3, []int{1, 0}, 3, false},
		{items, 8, 4, []int{1, 0}, 3, true},           // 0 has the Bound 4
		{square(3, []int{0}), 1, 1, []int{}, 0, true}, // the empty prefix is complete
		{square(3, []int{0}), 1, 0, nil, 1, false},
		{square(3, []int{0}), 0, 1, nil, 0, true},
		{square(3, []int{0, 7}, []int{5, 0}), 13, 2, []int{1}, 12, true},
		{most, math.MaxInt, 24, nil, math.MaxInt, false},
		{most, math.MaxInt, 25, rising(24), 24 * math.MaxInt32, false},
		{most, math.MaxInt, 300, rising(24), 24 * math.MaxInt32, false},
		{most, math.MaxInt, 301, rising(24), 24 * math.MaxInt32, true}, // 1 + 24 + 23 + .. + 1
	} {
		k := kernelOf(t, c.i)
		if p, best, done := kernel.Better(k, c.cost, c.steps); !slices.Equal(p, c.p) || best != c.best || done != c.done {
			t.Errorf("%v: Better(%d, %d) = %v, %d, %t", c.i, c.cost, c.steps, p, best, done)
		}
	}
}

func rising(n int) []int {
	var l []int
	for k := range n {
		l = append(l, k)
	}
	return l
}

// A kernel keeps its answers, whatever becomes of its problem, and of the lists that it handed out.
func TestKernelsKeepTheirAnswers(t *testing.T) {
	r := rand.New(rand.NewSource(56))
	for kind := 1; kind <= 3; kind++ {
		for range 20 {
			i := draw(r, kind, 4, 9)
			kept := inst.Copy(i)
			k, other := kernelOf(t, i), layer(t, kept)
			for _, row := range append(slices.Clone(i.Cost), i.Weight, i.Value) {
				for at := range row {
					row[at] = 77 + at
				}
			}
			if kind > 1 {
				i.Cost[0] = []int{1, 2, 3, 4}
			}
			walk(other, nil, func(p []int) {
				for _, call := range []func([]int) ([]int, api.Errno){k.Kids, k.Answer} {
					before := slices.Clone(p)
					list, _ := call(p)
					for at := range list[:cap(list)] {
						list[:cap(list)][at] = -7
					}
					if !slices.Equal(p, before) {
						t.Fatalf("%v became %v", before, p)
					}
				}
				hold(t, k, other, p)
			})
			p, _, _ := kernel.Better(k, math.MaxInt, 1000)
			for at := range p[:cap(p)] {
				p[:cap(p)][at] = -7
			}
			holdBetter(t, kept, kernelOf(t, kept), math.MaxInt, 1000)
			holdBetter(t, kept, k, math.MaxInt, 1000)
		}
	}
}

// Neither lists nor what stands behind them are changed.
func TestArgumentsStay(t *testing.T) {
	r := rand.New(rand.NewSource(57))
	for kind := 1; kind <= 3; kind++ {
		for range 20 {
			i := draw(r, kind, 4, 9)
			i.Weight, i.Value, i.Cost = slices.Grow(i.Weight, 2), slices.Grow(i.Value, 2), slices.Grow(i.Cost, 2)
			p := append(make([]int, 0, 9), 1, 2, 3, 0)
			if kind == 1 {
				p = append(make([]int, 0, 9), 0, 0, 0, 0)
			}
			tell := func() string {
				return fmt.Sprint(i, i.Weight[:cap(i.Weight)], i.Value[:cap(i.Value)], i.Cost[:cap(i.Cost)], p[:9])
			}
			before := tell()
			k := kernelOf(t, i)
			kernel.Count(i)
			for length := range 9 {
				k.Kids(p[:length])
				k.Bound(p[:length])
				k.Answer(p[:length])
			}
			kernel.Better(k, math.MaxInt, 100)
			if after := tell(); after != before {
				t.Fatalf("%s became %s", before, after)
			}
		}
	}
}
