package dive_test

import (
	"fmt"
	"math"
	"math/rand"
	"slices"
	"testing"

	"kurgan/api"
	"kurgan/dive"
	"kurgan/kernel"
)

const far = math.MaxInt

// drawn is a problem of a kind with numbers below top.
func drawn(r *rand.Rand, kind, n, top int) api.Instance {
	i := api.Instance{Kind: kind, N: n}
	list := func() []int {
		var l []int
		for range n {
			l = append(l, r.Intn(top))
		}
		return l
	}
	if kind == api.Knapsack {
		i.Weight, i.Value, i.Cap = list(), list(), r.Intn(min(n*top/2+1, api.MaxEntry))
		return i
	}
	for row := range n {
		i.Cost = append(i.Cost, list())
		if kind == api.Tour {
			i.Cost[row][row] = 0
		}
	}
	return i
}

func kernelOf(t *testing.T, i api.Instance) *kernel.Kernel {
	t.Helper()
	k, e := kernel.Of(i)
	if e != api.OK {
		t.Fatal(i, e)
	}
	return k
}

// plan tells the least cost ahead of each Step; leaves that were met may make it fall.
type plan func(step int, met []dive.Event) int

func always(least int) plan {
	return func(int, []dive.Event) int { return least }
}

// falling is what a worker knows: the least cost of all leaves so far.
func falling(least int) plan {
	return func(_ int, met []dive.Event) int {
		least := least
		for _, e := range met {
			if e.Kind == dive.Leaf {
				least = min(least, e.Cost)
			}
		}
		return least
	}
}

// plain is the chapter's search: it calls itself.
func plain(k *kernel.Kernel, p []int, costs plan, met []dive.Event) []dive.Event {
	e := dive.Event{Path: slices.Clone(p)}
	bound, _ := k.Bound(p)
	if bound >= costs(len(met), met) {
		e.Kind = dive.Pruned
		return append(met, e)
	}
	if len(p) == k.Depth() {
		e.Kind, e.Cost = dive.Leaf, bound
		return append(met, e)
	}
	e.Kind = dive.Branch
	met = append(met, e)
	kids, _ := k.Kids(p)
	for _, kid := range kids {
		met = plain(k, append(slices.Clone(p), kid), costs, met)
	}
	return met
}

func same(a, b dive.Event) bool {
	return a.Kind == b.Kind && a.Cost == b.Cost && slices.Equal(a.Path, b.Path)
}

// ended holds a search that has nothing left, again and again.
func ended(t *testing.T, d *dive.Dive) {
	t.Helper()
	for _, least := range []int{far, 5, 0, math.MinInt} {
		e, there := d.Step(least)
		if there || !same(e, dive.Event{}) || !d.Over() || d.Frames() != 0 {
			t.Fatal("behind the end:", e, there, d.Over(), d.Frames())
		}
	}
}

// frames tells how many prefixes stand above what is still to be examined: those on the way to the first of it.
func frames(rest []dive.Event, p []int) int {
	if len(rest) == 0 {
		return 0
	}
	return len(rest[0].Path) - len(p)
}

// hold goes through a whole search, and answers its events.
func hold(t *testing.T, k *kernel.Kernel, p []int, costs plan) []dive.Event {
	t.Helper()
	want := plain(k, p, costs, nil)
	d, e := dive.New(k, p)
	if d == nil || e != api.OK {
		t.Fatal(p, d, e)
	}
	var met []dive.Event
	for step, w := range want {
		if d.Over() || d.Frames() != frames(want[step:], p) || d.Frames() > k.Depth()-len(p) {
			t.Fatalf("below %v ahead of %v: %t, %d frames", p, w, d.Over(), d.Frames())
		}
		got, there := d.Step(costs(step, met))
		if !there || !same(got, w) {
			t.Fatalf("below %v: %v, %t, not %v", p, got, there, w)
		}
		met = append(met, got)
	}
	ended(t, d)
	return met
}

func small(r *rand.Rand, visit func(i api.Instance)) {
	for kind := 1; kind <= 3; kind++ {
		for n := 1; n <= 5; n++ {
			for _, top := range []int{1, 4, 50} {
				visit(drawn(r, kind, n, top))
				visit(drawn(r, kind, n, top))
			}
		}
	}
}

// prefixes tells all prefixes, by what follows on the empty one.
func prefixes(k *kernel.Kernel, p []int) [][]int {
	l := [][]int{p}
	kids, _ := k.Kids(p)
	for _, kid := range kids {
		l = append(l, prefixes(k, append(slices.Clone(p), kid))...)
	}
	return l
}

// From every prefix of small problems: without a least cost, with each one that decides something, with one that falls, and with all pruned at once.
func TestSearches(t *testing.T) {
	r := rand.New(rand.NewSource(81))
	small(r, func(i api.Instance) {
		k := kernelOf(t, i)
		for _, p := range prefixes(k, []int{}) {
			whole := hold(t, k, p, always(far))
			least := far
			for _, e := range whole {
				if e.Kind == dive.Pruned {
					t.Fatal("pruned without a least cost", e)
				}
				if e.Kind == dive.Leaf {
					least = min(least, e.Cost)
				}
			}
			hold(t, k, p, falling(far))
			for _, n := range []int{least - 1, least, least + 1, least + 5} {
				hold(t, k, p, always(n))
				hold(t, k, p, falling(n))
			}
			for _, n := range []int{0, -1, math.MinInt} {
				if l := hold(t, k, p, always(n)); len(l) != 1 || l[0].Kind != dive.Pruned || l[0].Cost != 0 {
					t.Fatal("all is pruned at once", l)
				}
			}
		}
	})
}

// The least cost may be any number ahead of each Step, less or more than before.
func TestCostsThatChange(t *testing.T) {
	r := rand.New(rand.NewSource(82))
	small(r, func(i api.Instance) {
		k := kernelOf(t, i)
		for range 10 {
			costs := make([]int, 0, 400)
			for range 400 {
				costs = append(costs, r.Intn(120)+r.Intn(2)*1000)
			}
			hold(t, k, nil, func(step int, _ []dive.Event) int { return costs[step] })
		}
	})
}

// Without a least cost each prefix comes just once; with one, each that has no pruned one above it.
func TestEachPrefixOnce(t *testing.T) {
	r := rand.New(rand.NewSource(83))
	small(r, func(i api.Instance) {
		k := kernelOf(t, i)
		all := prefixes(k, nil)
		for _, costs := range []plan{always(far), falling(far), always(30)} {
			seen, pruned := map[string]int{}, map[string]int{}
			for _, e := range hold(t, k, nil, costs) {
				seen[fmt.Sprint(e.Path)]++
				if e.Kind == dive.Pruned {
					pruned[fmt.Sprint(e.Path)]++
				}
			}
			for _, p := range all {
				want := 1
				for length := range p {
					if pruned[fmt.Sprint(p[:length])] > 0 {
						want = 0
					}
				}
				if seen[fmt.Sprint(p)] != want {
					t.Fatal(p, "comes so often:", seen[fmt.Sprint(p)])
				}
			}
		}
	})
}

// A search that knows the least cost of its leaves finds a best one.
func TestLastLeafIsBest(t *testing.T) {
	r := rand.New(rand.NewSource(84))
	small(r, func(i api.Instance) {
		k := kernelOf(t, i)
		least := far
		for _, e := range hold(t, k, nil, always(far)) {
			if e.Kind == dive.Leaf {
				least = min(least, e.Cost)
			}
		}
		last := far
		for _, e := range hold(t, k, nil, falling(far)) {
			if e.Kind == dive.Leaf {
				last = e.Cost
			}
		}
		if _, best, done := kernel.Better(k, far, kernel.Count(i)); !done || last != best || least != best {
			t.Fatal(last, least, best)
		}
	})
}

func TestStepByStep(t *testing.T) {
	items := kernelOf(t, api.Instance{Kind: 1, N: 2, Cap: 4, Weight: []int{2, 3}, Value: []int{4, 3}})
	d, e := dive.New(items, nil)
	if e != api.OK {
		t.Fatal(e)
	}
	for _, c := range []struct {
		least  int
		want   dive.Event
		frames int
		over   bool
	}{
		{8, dive.Event{Kind: dive.Branch}, 1, false},
		{8, dive.Event{Kind: dive.Branch, Path: []int{1}}, 2, false},
		{8, dive.Event{Kind: dive.Leaf, Path: []int{1, 0}, Cost: 3}, 1, false},
		{4, dive.Event{Kind: dive.Pruned, Path: []int{0}}, 0, true},
	} {
		if d.Over() {
			t.Fatal("over ahead of", c.want)
		}
		got, there := d.Step(c.least)
		if !there || !same(got, c.want) || d.Frames() != c.frames || d.Over() != c.over {
			t.Fatal(got, there, d.Frames(), d.Over(), "not", c)
		}
	}
	ended(t, d)
}

func TestCompletePrefixes(t *testing.T) {
	two := kernelOf(t, api.Instance{Kind: 2, N: 2, Cost: [][]int{{1, 2}, {3, 9}}})
	one := kernelOf(t, api.Instance{Kind: 3, N: 1, Cost: [][]int{{0}}}) // whose empty prefix is complete
	for _, c := range []struct {
		k     *kernel.Kernel
		p     []int
		least int
		kind  int
		cost  int
	}{
		{two, []int{1, 0}, 6, dive.Leaf, 5}, {two, []int{1, 0}, far, dive.Leaf, 5}, {two, []int{1, 0}, 5, dive.Pruned, 0}, {two, []int{1, 0}, 4, dive.Pruned, 0},
		{two, []int{0, 1}, 11, dive.Leaf, 10}, {two, []int{0, 1}, 10, dive.Pruned, 0},
		{one, nil, 1, dive.Leaf, 0}, {one, nil, 0, dive.Pruned, 0}, {one, []int{}, far, dive.Leaf, 0},
	} {
		d, e := dive.New(c.k, c.p)
		if e != api.OK || d.Over() {
			t.Fatal(c.p, e)
		}
		got, there := d.Step(c.least)
		if want := (dive.Event{Kind: c.kind, Path: c.p, Cost: c.cost}); !there || !same(got, want) {
			t.Error(got, there, "not", want)
		}
		ended(t, d)
	}
}

func TestWrongPrefixes(t *testing.T) {
	items := kernelOf(t, api.Instance{Kind: 1, N: 2, Cap: 4, Weight: []int{2, 3}, Value: []int{4, 3}})
	rows := kernelOf(t, api.Instance{Kind: 2, N: 2, Cost: [][]int{{1, 2}, {3, 9}}})
	cities := kernelOf(t, api.Instance{Kind: 3, N: 3, Cost: [][]int{{0, 2, 5}, {3, 0, 4}, {1, 1, 0}}})
	for _, c := range []struct {
		k *kernel.Kernel
		p []int
		e api.Errno
	}{
		{nil, nil, api.ErrArg}, {nil, []int{0}, api.ErrArg}, {nil, []int{7}, api.ErrArg}, {&kernel.Kernel{}, nil, api.ErrArg}, {&kernel.Kernel{}, []int{1}, api.ErrArg},
		{items, nil, api.OK}, {items, []int{}, api.OK}, {items, []int{1}, api.OK}, {items, []int{0}, api.OK}, {items, []int{1, 0}, api.OK}, {items, []int{0, 1}, api.OK}, {items, []int{0, 0}, api.OK},
		{items, []int{1, 1}, api.ErrArg}, {items, []int{2}, api.ErrArg}, {items, []int{-1}, api.ErrArg}, {items, []int{0, 0, 0}, api.ErrArg}, {items, []int{0, math.MinInt}, api.ErrArg},
		{rows, nil, api.OK}, {rows, []int{1}, api.OK}, {rows, []int{0, 1}, api.OK},
		{rows, []int{0, 0}, api.ErrArg}, {rows, []int{2}, api.ErrArg}, {rows, []int{-1}, api.ErrArg}, {rows, []int{0, 1, 2}, api.ErrArg}, {rows, make([]int, 100), api.ErrArg},
		{cities, nil, api.OK}, {cities, []int{2}, api.OK}, {cities, []int{1, 2}, api.OK},
		{cities, []int{0}, api.ErrArg}, {cities, []int{0, 1}, api.ErrArg}, {cities, []int{1, 1}, api.ErrArg}, {cities, []int{3}, api.ErrArg}, {cities, []int{1, 2, 0}, api.ErrArg},
	} {
		d, e := dive.New(c.k, c.p)
		if e != c.e || (d == nil) != (e != api.OK) {
			t.Errorf("New(%v) = %v, %d, not %d", c.p, d, e, c.e)
		}
		if e == api.OK && (d.Over() || d.Frames() != 0) {
			t.Error("a new search is over, or is on its way", c.p)
		}
	}
}

func TestKinds(t *testing.T) {
	if dive.Pruned != 1 || dive.Branch != 2 || dive.Leaf != 3 {
		t.Error(dive.Pruned, dive.Branch, dive.Leaf)
	}
}

func TestNils(t *testing.T) {
	for _, d := range []*dive.Dive{nil, {}} {
		ended(t, d)
	}
}

// p is neither kept nor changed, nor is what stands behind it; and each Path is the caller's.
func TestListsAreCopied(t *testing.T) {
	r := rand.New(rand.NewSource(85))
	spoil := func(l []int) {
		for at := range l[:cap(l)] {
			l[:cap(l)][at] = -5
		}
	}
	for kind := 1; kind <= 3; kind++ {
		k := kernelOf(t, drawn(r, kind, 5, 30))
		for _, q := range prefixes(k, nil) {
			want := plain(k, q, always(far), nil)
			p := append(make([]int, 0, 12), q...)
			d, _ := dive.New(k, p)
			for step, w := range want {
				if step == len(want)/2 {
					if !slices.Equal(p[:12], append(slices.Clone(q), make([]int, 12-len(q))...)) {
						t.Fatal("the list was changed", p[:12])
					}
					spoil(p)
				}
				got, _ := d.Step(far)
				if !same(got, w) {
					t.Fatal(got, "not", w)
				}
				spoil(got.Path)
			}
			ended(t, d)
		}
	}
}

func TestPathsShareNothing(t *testing.T) {
	r := rand.New(rand.NewSource(86))
	for kind := 1; kind <= 3; kind++ {
		k := kernelOf(t, drawn(r, kind, 4, 30))
		d, _ := dive.New(k, nil)
		var met []dive.Event
		for !d.Over() {
			e, _ := d.Step(far)
			met = append(met, e)
		}
		if want := plain(k, nil, always(far), nil); !slices.EqualFunc(met, want, same) {
			t.Fatal("paths became others", met)
		}
		for at := range met {
			path := met[at].Path
			for n := range path[:cap(path)] {
				path[:cap(path)][n] = 100 + at
			}
		}
		for at, e := range met {
			for _, n := range e.Path {
				if n != 100+at {
					t.Fatal("two paths share memory", at, e.Path)
				}
			}
		}
	}
}

// Searches that go on by turns don't touch each other.
func TestSearchesByTurns(t *testing.T) {
	r := rand.New(rand.NewSource(87))
	for kind := 1; kind <= 3; kind++ {
		k := kernelOf(t, drawn(r, kind, 4, 30))
		all := prefixes(k, nil)
		var searches []*dive.Dive
		met := make([][]dive.Event, len(all))
		for _, p := range all {
			d, _ := dive.New(k, p)
			searches = append(searches, d)
		}
		for going := true; going; {
			going = false
			for at, d := range searches {
				if e, there := d.Step(far); there {
					met[at], going = append(met[at], e), true
				}
			}
		}
		for at, p := range all {
			if !slices.EqualFunc(met[at], plain(k, p, always(far), nil), same) {
				t.Fatal(p, met[at])
			}
		}
	}
}

// The greatest problems there may be: so many Steps of a search, which never has more on its way than the Depth.
func TestGreatestProblems(t *testing.T) {
	r := rand.New(rand.NewSource(88))
	for kind := 1; kind <= 3; kind++ {
		n := api.MaxRows
		if kind == 1 {
			n = api.MaxItems
		}
		k := kernelOf(t, drawn(r, kind, n, api.MaxEntry+1))
		d, _ := dive.New(k, nil)
		deepest, last := 0, []int{}
		for step := range 3000 {
			e, there := d.Step(far)
			if !there || step <= k.Depth() && len(e.Path) != step || d.Over() {
				t.Fatal(step, e, there)
			}
			if d.Frames() > k.Depth() {
				t.Fatal("too many on its way", d.Frames())
			}
			if bound, _ := k.Bound(e.Path); e.Kind == dive.Leaf && (bound != e.Cost || len(e.Path) != k.Depth()) || e.Kind != dive.Leaf && e.Cost != 0 || e.Kind == dive.Pruned {
				t.Fatal(step, e, bound)
			}
			if slices.Equal(e.Path, last) && step > 0 {
				t.Fatal("twice the same", e)
			}
			deepest, last = max(deepest, d.Frames()), e.Path
		}
		if deepest != k.Depth() {
			t.Fatal(deepest, k.Depth())
		}
		for !d.Over() {
			if e, _ := d.Step(0); e.Kind != dive.Pruned {
				t.Fatal(e)
			}
		}
		ended(t, d)
	}
}

// A problem stays as it is.
func TestProblemStays(t *testing.T) {
	r := rand.New(rand.NewSource(89))
	for kind := 1; kind <= 3; kind++ {
		i := drawn(r, kind, 4, 30)
		before := fmt.Sprint(i)
		hold(t, kernelOf(t, i), nil, falling(far))
		if after := fmt.Sprint(i); after != before {
			t.Fatal(before, after)
		}
	}
}
