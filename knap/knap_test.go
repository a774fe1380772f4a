package knap_test

import (
	"fmt"
	"math"
	"math/big"
	"math/rand"
	"slices"
	"testing"

	"kurgan/api"
	"kurgan/inst"
	"kurgan/knap"
	"kurgan/value"
)

func knapsack(room int, weight, worth []int) api.Instance {
	return api.Instance{Kind: 1, N: len(weight), Cap: room, Weight: weight, Value: worth}
}

func draw(r *rand.Rand, n, top int) api.Instance {
	weight, worth := []int{}, []int{}
	for range n {
		weight, worth = append(weight, r.Intn(top)), append(worth, r.Intn(top))
	}
	return knapsack(r.Intn(min(n*top*2/3+1, 1<<31)), weight, worth)
}

// items: the order of the items, each time the best of those that are left.
func items(i api.Instance) []int {
	var l []int
	for len(l) < i.N {
		best := -1
		for a := range i.N {
			switch {
			case slices.Contains(l, a):
			case best < 0,
				i.Weight[best] > 0 && i.Weight[a] == 0,
				i.Weight[best] > 0 && i.Value[a]*i.Weight[best] > i.Value[best]*i.Weight[a]: // of 62 bits
				best = a
			}
		}
		l = append(l, best)
	}
	return l
}

func isPrefix(i api.Instance, l, p []int) bool {
	room := i.Cap
	for at, n := range p {
		if at >= i.N || n != 0 && n != 1 {
			return false
		}
		room -= n * i.Weight[l[at]]
	}
	return room >= 0
}

// bound is the chapter's C + R - U.
func bound(i api.Instance, l, p []int) int {
	c, r, u, room := 0, 0, 0, i.Cap
	for at, n := range p {
		c += (1 - n) * i.Value[l[at]]
		room -= n * i.Weight[l[at]]
	}
	for _, item := range l[len(p):] {
		r += i.Value[item]
	}
	for _, item := range l[len(p):] {
		if i.Weight[item] > room {
			part := new(big.Int).Mul(big.NewInt(int64(i.Value[item])), big.NewInt(int64(room)))
			u += int(part.Div(part, big.NewInt(int64(i.Weight[item]))).Int64())
			break
		}
		u += i.Value[item]
		room -= i.Weight[item]
	}
	return c + r - u
}

func kernelOf(t *testing.T, i api.Instance) *knap.Kernel {
	t.Helper()
	k, e := knap.New(i)
	if e != api.OK || k == nil {
		t.Fatalf("New(%v) = %v, %d", i, k, e)
	}
	if k.Depth() != i.N {
		t.Fatalf("Depth of %v is %d", i, k.Depth())
	}
	return k
}

// hold holds all that a kernel answers to a list against the chapter's words.
func hold(t *testing.T, i api.Instance, k *knap.Kernel, l, p []int) {
	t.Helper()
	if !isPrefix(i, l, p) {
		refuse(t, k, p)
		return
	}
	var next, x []int
	for _, n := range []int{1, 0} {
		if isPrefix(i, l, append(slices.Clone(p), n)) {
			next = append(next, n)
		}
	}
	if kids, e := k.Kids(p); !slices.Equal(kids, next) || e != api.OK {
		t.Fatalf("%v: Kids(%v) = %v, %d, not %v", i, p, kids, e, next)
	}
	if b, e := k.Bound(p); b != bound(i, l, p) || e != api.OK {
		t.Fatalf("%v: Bound(%v) = %d, %d, not %d", i, p, b, e, bound(i, l, p))
	}
	want := api.ErrArg
	if len(p) == i.N {
		want = api.OK
		x = make([]int, i.N)
		for at, n := range p {
			x[l[at]] = n
		}
	}
	if y, e := k.Answer(p); !slices.Equal(y, x) || e != want {
		t.Fatalf("%v: Answer(%v) = %v, %d, not %v, %d", i, p, y, e, x, want)
	}
}

func refuse(t *testing.T, k *knap.Kernel, p []int) {
	t.Helper()
	if kids, e := k.Kids(p); len(kids) != 0 || e != api.ErrArg {
		t.Fatalf("Kids(%v) = %v, %d", p, kids, e)
	}
	if b, e := k.Bound(p); b != 0 || e != api.ErrArg {
		t.Fatalf("Bound(%v) = %d, %d", p, b, e)
	}
	if x, e := k.Answer(p); len(x) != 0 || e != api.ErrArg {
		t.Fatalf("Answer(%v) = %v, %d", p, x, e)
	}
}

// lists: all lists of so many numbers out of those.
func lists(n int, numbers ...int) [][]int {
	if n == 0 {
		return [][]int{{}}
	}
	var out [][]int
	for _, l := range lists(n-1, numbers...) {
		for _, k := range numbers {
			out = append(out, append(slices.Clone(l), k))
		}
	}
	return out
}

func TestAllShortLists(t *testing.T) {
	r := rand.New(rand.NewSource(20))
	for n := 1; n <= 4; n++ {
		for _, top := range []int{1, 2, 4, 12} {
			for range 10 {
				i := draw(r, n, top)
				k, l := kernelOf(t, i), items(i)
				hold(t, i, k, l, nil)
				for length := range n + 2 {
					for _, p := range lists(length, -1, 0, 1, 2) {
						hold(t, i, k, l, p)
					}
				}
			}
		}
	}
}

func TestExamples(t *testing.T) {
	type answers struct {
		p, kids []int
		bound   int
	}
	for _, c := range []struct {
		what string
		i    api.Instance
		all  []answers
	}{
		{"the document's example", knapsack(4, []int{2, 3}, []int{4, 3}), []answers{
			{nil, []int{1, 0}, 1}, {[]int{1}, []int{0}, 1}, {[]int{0}, []int{1, 0}, 4}, {[]int{1, 0}, nil, 3}, {[]int{0, 1}, nil, 4}, {[]int{0, 0}, nil, 7},
		}},
		{"the second item is the first of the order", knapsack(3, []int{3, 2}, []int{3, 4}), []answers{
			{nil, []int{1, 0}, 2}, {[]int{1}, []int{0}, 2}, {[]int{0}, []int{1, 0}, 4}, {[]int{0, 1}, nil, 4},
		}},
		{"an item that has just room, and then no room at all", knapsack(2, []int{2, 3}, []int{4, 3}), []answers{
			{nil, []int{1, 0}, 3}, {[]int{1}, []int{0}, 3}, {[]int{0}, []int{0}, 5},
		}},
		{"nothing of an item behind the first that has no room", knapsack(3, []int{2, 2, 1}, []int{8, 6, 2}), []answers{
			{nil, []int{1, 0}, 16 - 8 - 3}, {[]int{1}, []int{0}, 5}, {[]int{1, 0}, []int{1, 0}, 6},
		}},
		{"a part is rounded down, and what is lost up", knapsack(3, []int{2, 2}, []int{5, 5}), []answers{
			{nil, []int{1, 0}, 10 - 5 - 2}, {[]int{0}, []int{1, 0}, 5},
		}},
		{"no room, and items without weight", knapsack(0, []int{1, 0, 0}, []int{9, 0, 3}), []answers{
			{nil, []int{1, 0}, 9}, {[]int{1}, []int{1, 0}, 9}, {[]int{0}, []int{1, 0}, 9}, {[]int{0, 0}, []int{0}, 12}, {[]int{1, 1}, []int{0}, 9}, {[]int{1, 1, 0}, nil, 9},
		}},
		{"nothing fits", knapsack(1, []int{2, 2}, []int{2, 1}), []answers{
			{nil, []int{0}, 2}, {[]int{0}, []int{0}, 3}, {[]int{0, 0}, nil, 3},
		}},
		{"all fit", knapsack(9, []int{4, 5}, []int{2, 1}), []answers{
			{nil, []int{1, 0}, 0}, {[]int{1}, []int{1, 0}, 0}, {[]int{1, 1}, nil, 0}, {[]int{0}, []int{1, 0}, 2},
		}},
		{"one item", knapsack(3, []int{3}, []int{7}), []answers{
			{nil, []int{1, 0}, 0}, {[]int{1}, nil, 0}, {[]int{0}, nil, 7},
		}},
		{"equal ratios: the first item first", knapsack(2, []int{4, 2}, []int{2, 1}), []answers{
			{nil, []int{0}, 2}, {[]int{0}, []int{1, 0}, 2}, {[]int{0, 1}, nil, 2},
		}},
	} {
		k, l := kernelOf(t, c.i), items(c.i)
		for _, a := range c.all {
			hold(t, c.i, k, l, a.p)
			kids, _ := k.Kids(a.p)
			b, _ := k.Bound(a.p)
			if !slices.Equal(kids, a.kids) || b != a.bound {
				t.Errorf("%s: Kids(%v) = %v, Bound %d", c.what, a.p, kids, b)
			}
		}
	}
}

func TestAnswerIsInTheProblemsOrder(t *testing.T) {
	k := kernelOf(t, knapsack(3, []int{3, 2, 0, 1}, []int{3, 4, 1, 9})) // whose order is 2, 3, 1, 0
	for _, c := range [][2][]int{{{1, 0, 0, 1}, {1, 0, 1, 0}}, {{0, 1, 1, 0}, {0, 1, 0, 1}}, {{0, 0, 0, 0}, {0, 0, 0, 0}}} {
		if x, e := k.Answer(c[0]); !slices.Equal(x, c[1]) || e != api.OK {
			t.Errorf("Answer(%v) = %v, %d", c[0], x, e)
		}
	}
	refuse(t, k, []int{0, 1, 1, 1}) // one too heavy
}

// walk calls visit for each prefix that the kernel leads to.
func walk(k *knap.Kernel, p []int, visit func(p []int)) {
	visit(p)
	kids, _ := k.Kids(p)
	for _, n := range kids {
		walk(k, append(slices.Clone(p), n), visit)
	}
}

// solutions: all of a problem, each with its cost.
func solutions(i api.Instance) map[string]int {
	all := map[string]int{}
	for _, x := range lists(i.N, 0, 1) {
		if cost, e := value.Cost(i, x); e == api.OK {
			all[fmt.Sprint(x)] = cost
		}
	}
	return all
}

// For each prefix of small problems: what all solutions cost that begin so; and each solution is that of one complete prefix.
func TestNoSolutionIsBelowItsBounds(t *testing.T) {
	r := rand.New(rand.NewSource(21))
	for n := 1; n <= 8; n++ {
		for _, top := range []int{1, 2, 3, 10, 1000, 1 << 31} {
			for range 5 {
				i := draw(r, n, top)
				k, l, all := kernelOf(t, i), items(i), solutions(i)
				seen := map[string]bool{}
				walk(k, nil, func(p []int) {
					hold(t, i, k, l, p)
					holdBelow(t, i, k, l, p)
					if len(p) < n {
						return
					}
					x, _ := k.Answer(p)
					b, _ := k.Bound(p)
					cost, met := all[fmt.Sprint(x)]
					if !met || seen[fmt.Sprint(x)] || b != cost {
						t.Fatalf("%v: %v with the Bound %d answers %v, which costs %d (%t)", i, p, b, x, cost, met)
					}
					seen[fmt.Sprint(x)] = true
				})
				if len(seen) != len(all) {
					t.Fatalf("%v: %d of %d solutions", i, len(seen), len(all))
				}
			}
		}
	}
}

func holdBelow(t *testing.T, i api.Instance, k *knap.Kernel, l, p []int) {
	t.Helper()
	b, _ := k.Bound(p)
	for _, rest := range lists(i.N-len(p), 0, 1) {
		x := make([]int, i.N)
		for at, n := range append(slices.Clone(p), rest...) {
			x[l[at]] = n
		}
		if cost, e := value.Cost(i, x); e == api.OK && cost < b {
			t.Fatalf("%v: Bound(%v) = %d, but %v costs %d", i, p, b, x, cost)
		}
	}
}

func TestGreatProblems(t *testing.T) {
	const most = math.MaxInt32
	r := rand.New(rand.NewSource(22))
	for _, n := range []int{63, 64} {
		numbers := slices.Repeat([]int{most}, n)
		for _, i := range []api.Instance{
			draw(r, n, 10), draw(r, n, 1<<31), draw(r, n, 1<<31),
			knapsack(most, numbers, numbers), knapsack(most-1, numbers, numbers), knapsack(0, make([]int, n), numbers), knapsack(0, numbers, numbers),
		} {
			k, l := kernelOf(t, i), items(i)
			for range 30 {
				var p []int
				for len(p) < n {
					hold(t, i, k, l, p)
					kids, _ := k.Kids(p)
					p = append(p, kids[r.Intn(len(kids))])
				}
				hold(t, i, k, l, p)
				hold(t, i, k, l, append(p, 0))
				hold(t, i, k, l, slices.Repeat([]int{1}, n)) // 2^37 in all, where there is weight
			}
		}
	}
	// The part of an item is exact where a product of 62 bits is divided.
	i := knapsack(most-1, []int{most}, []int{most})
	if b, e := kernelOf(t, i).Bound(nil); b != 1 || e != api.OK {
		t.Error(b, e)
	}
	if b, e := kernelOf(t, knapsack(0, numbersTo(64), numbersTo(64))).Bound(nil); b != 64*65/2 || e != api.OK {
		t.Error(b, e)
	}
}

func numbersTo(n int) []int {
	var l []int
	for k := range n {
		l = append(l, k+1)
	}
	return l
}

func TestNoPrefixes(t *testing.T) {
	k := kernelOf(t, knapsack(4, []int{2, 3}, []int{4, 3}))
	for _, p := range [][]int{
		{0, 0, 0}, {0, 0, 1}, make([]int, 64), make([]int, 65), make([]int, 100000), // too long
		{2}, {-1}, {0, 2}, {0, -1}, {math.MinInt}, {0, math.MaxInt}, {1 << 32}, {1<<32 + 1, 0}, {256}, {257, 0}, // no number of an item
		{1, 1}, // too heavy
	} {
		refuse(t, k, p)
	}
	for _, p := range [][]int{nil, {}, {0}, {1}} { // prefixes, but none of them complete
		if x, e := k.Answer(p); len(x) != 0 || e != api.ErrArg {
			t.Errorf("Answer(%v) = %v, %d", p, x, e)
		}
	}
	// Once too heavy, whatever comes behind.
	k = kernelOf(t, knapsack(4, []int{1, 5, 2}, []int{9, 40, 1}))
	for _, p := range [][]int{{0, 1}, {0, 1, 0}, {1, 1}, {1, 1, 1}} {
		refuse(t, k, p)
	}
}

func TestNilKernels(t *testing.T) {
	for _, k := range []*knap.Kernel{nil, {}} {
		if k.Depth() != 0 {
			t.Error(k.Depth())
		}
		for _, p := range [][]int{nil, {}, {0}, {1}, {0, 1}, {-1}, make([]int, 65)} {
			refuse(t, k, p)
		}
	}
}

// The errors of inst.Check come first; a valid problem of another kind is of no use here.
func TestWrongProblems(t *testing.T) {
	for _, c := range []struct {
		i api.Instance
		e api.Errno
	}{
		{api.Instance{}, api.ErrKind}, {api.Instance{Kind: 4, N: 1}, api.ErrKind}, {api.Instance{Kind: -1, N: -1}, api.ErrKind},
		{api.Instance{Kind: 1}, api.ErrArg}, {api.Instance{Kind: 1, N: -1}, api.ErrArg}, {api.Instance{Kind: 2, N: 0}, api.ErrArg}, {api.Instance{Kind: 3, N: math.MinInt}, api.ErrArg},
		{api.Instance{Kind: 1, N: 65}, api.ErrBig}, {knapsack(5, make([]int, 65), make([]int, 65)), api.ErrBig}, {api.Instance{Kind: 2, N: 25}, api.ErrBig}, {api.Instance{Kind: 3, N: math.MaxInt}, api.ErrBig},
		{api.Instance{Kind: 1, N: 1}, api.ErrForm}, {api.Instance{Kind: 1, N: 1, Weight: []int{1}}, api.ErrForm}, {api.Instance{Kind: 1, N: 2, Weight: []int{1, 1}, Value: []int{1}}, api.ErrForm},
		{api.Instance{Kind: 1, N: 1, Weight: []int{-1}, Value: []int{1}, Cost: [][]int{{0}}}, api.ErrForm}, {api.Instance{Kind: 2, N: 1}, api.ErrForm}, {api.Instance{Kind: 3, N: 1, Cost: [][]int{{5}}}, api.ErrForm},
		{knapsack(-1, []int{1 << 31}, []int{1}), api.ErrArg}, {knapsack(1, []int{-1}, []int{1}), api.ErrArg}, {knapsack(1, []int{1}, []int{-1}), api.ErrArg}, {api.Instance{Kind: 2, N: 1, Cost: [][]int{{-1}}}, api.ErrArg},
		{knapsack(1<<31, []int{-1}, []int{1}), api.ErrBig}, {knapsack(1, []int{1 << 31}, []int{1}), api.ErrBig}, {knapsack(1, []int{1}, []int{math.MaxInt}), api.ErrBig}, {api.Instance{Kind: 2, N: 1, Cost: [][]int{{1 << 31}}}, api.ErrBig},
		{api.Instance{Kind: 2, N: 1, Cost: [][]int{{7}}}, api.ErrKind}, {api.Instance{Kind: 3, N: 1, Cost: [][]int{{0}}}, api.ErrKind},
		{api.Instance{Kind: 2, N: 2, Cost: [][]int{{1, 2}, {3, 9}}}, api.ErrKind}, {api.Instance{Kind: 3, N: 2, Cost: [][]int{{0, 7}, {7, 0}}}, api.ErrKind},
	} {
		if e := inst.Check(c.i); e != api.OK && e != c.e {
			t.Errorf("Check(%v) = %d", c.i, e)
		}
		if k, e := knap.New(c.i); k != nil || e != c.e {
			t.Errorf("New(%v) = %v, %d, not %d", c.i, k, e, c.e)
		}
	}
}

// A kernel keeps its answers, whatever becomes of its problem, and of the lists that it handed out.
func TestKernelsKeepTheirAnswers(t *testing.T) {
	r := rand.New(rand.NewSource(23))
	for range 50 {
		i := draw(r, 6, 9)
		kept := inst.Copy(i)
		k, l := kernelOf(t, i), items(kept)
		for at := range i.N {
			i.Weight[at], i.Value[at] = 9-i.Weight[at], 77
		}
		walk(k, nil, func(p []int) {
			hold(t, kept, k, l, p)
			for _, call := range []func([]int) ([]int, api.Errno){k.Kids, k.Answer} {
				before := slices.Clone(p)
				list, _ := call(p)
				for at := range list[:cap(list)] {
					list[:cap(list)][at] = -7
				}
				if !slices.Equal(p, before) {
					t.Fatalf("%v became %v", before, p)
				}
			}
			hold(t, kept, k, l, p)
		})
	}
}

// Neither lists nor what stands behind them are changed.
func TestArgumentsStay(t *testing.T) {
	r := rand.New(rand.NewSource(24))
	for range 50 {
		i := draw(r, 5, 9)
		i.Weight, i.Value = slices.Grow(i.Weight, 3), slices.Grow(i.Value, 3)
		p := append(make([]int, 0, 9), 0, 0, 0, 0, 0)
		tell := func() string { return fmt.Sprint(i, i.Weight[:cap(i.Weight)], i.Value[:cap(i.Value)], p[:9]) }
		before := tell()
		k := kernelOf(t, i)
		for length := range 9 {
			k.Kids(p[:length])
			k.Bound(p[:length])
			k.Answer(p[:length])
		}
		if after := tell(); after != before {
			t.Fatalf("%s became %s", before, after)
		}
	}
}
