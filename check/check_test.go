package check_test

import (
	"math"
	"math/rand"
	"slices"
	"strings"
	"testing"

	"kurgan/api"
	"kurgan/cert"
	"kurgan/check"
	"kurgan/dive"
	"kurgan/greedy"
	"kurgan/inst"
	"kurgan/log"
	"kurgan/solver"
	"kurgan/tape"
	"kurgan/tree"
	"kurgan/value"
)

// two is a Knapsack whose items are told of in their own order: taking the first one is best, and costs 3.
func two() api.Instance { return knapsack(4, []int{2, 3}, []int{4, 3}) }

func TestExample(t *testing.T) {
	for _, worth := range []int{0, 1, 7, api.MaxEntry} {
		i := knapsack(3, []int{3}, []int{worth})
		for _, text := range []string{"bpl", "bll", "bpp", "blp"} {
			refused(t, i, cert.Cert{Value: worth, X: []int{1}, Tree: text}, api.OK)
		}
	}
}

// The certificates of machines of one to several workers that are done, as they are and as they are read again from their texts.
func TestMachinesThatAreDone(t *testing.T) {
	r := rand.New(rand.NewSource(331))
	for workers := 1; workers <= 16; workers++ {
		small(r, 6, func(i api.Instance) {
			c := solver.Config{Workers: workers, Slots: 1 + r.Intn(20), Levels: 1 + r.Intn(4)}
			picks := make([]int, 300)
			for at := range picks {
				picks[at] = r.Intn(workers)
			}
			m, e := solver.New(i, c, tape.New(picks, []int{r.Intn(50), r.Intn(50), r.Intn(50)}))
			if e != api.OK || !m.All(1000000) {
				t.Fatal(i, c, e)
			}
			text, e := tree.Word(kernelOf(i), m.Met())
			made := cert.Cert{Value: m.Result().Value, X: m.Result().X, Tree: text}
			if e != api.OK || hold(t, i, made) != api.OK {
				t.Fatal("refused:", i, made, e)
			}
			written, e := cert.Write(made)
			if made.Value > 1<<50 || len(text) > 1<<20 {
				return
			}
			if read, _, wrong := cert.Read(written); e != api.OK || wrong != api.OK || check.Check(i, read) != api.OK {
				t.Fatal("refused:", i, written, e, wrong)
			}
		})
	}
}

// Searches in place that begin with the cost of a solution soon found.
func TestSearchesInPlace(t *testing.T) {
	r := rand.New(rand.NewSource(332))
	small(r, 8, func(i api.Instance) {
		x, cost, _ := greedy.Start(i)
		k := kernelOf(i)
		d, _ := dive.New(k, nil)
		var l []log.Record
		for !d.Over() {
			e, _ := d.Step(cost)
			l = append(l, log.Record{Kind: e.Kind, Path: e.Path})
			if e.Kind == dive.Leaf {
				x, _ = k.Answer(e.Path)
				cost = e.Cost
			}
		}
		text, _ := tree.Word(k, l)
		if c := (cert.Cert{Value: value.Of(i, cost), X: x, Tree: text}); hold(t, i, c) != api.OK {
			t.Fatal("refused:", i, c)
		}
	})
}

// Certificates that are right, whatever of the search was pruned.
func TestProofs(t *testing.T) {
	r := rand.New(rand.NewSource(333))
	for range 10 {
		small(r, 5, func(i api.Instance) {
			for _, cut := range []func([]int) bool{never, always, sometimes(r), sometimes(r), sometimes(r)} {
				if c := proof(i, cut); hold(t, i, c) != api.OK {
					t.Fatal("refused:", i, c)
				}
			}
		})
	}
}

// Problems that are not in form: the errors of layer 5 come first, whatever the certificate is.
func TestWrongProblems(t *testing.T) {
	item := []int{1}
	for _, i := range []api.Instance{
		{}, {Kind: 4, N: 1, Cost: [][]int{{0}}}, {Kind: -1, N: -1}, {Kind: math.MinInt},
		{Kind: 1}, {Kind: 2, N: 0}, {Kind: 3, N: -1}, {Kind: 1, N: math.MinInt},
		{Kind: 1, N: 65}, {Kind: 2, N: 25}, {Kind: 3, N: 25}, {Kind: 3, N: math.MaxInt},
		{Kind: 1, N: 1}, {Kind: 1, N: 2, Weight: item, Value: item}, {Kind: 1, N: 1, Weight: item, Value: item, Cost: [][]int{{0}}}, {Kind: 1, N: 2, Weight: []int{1, 2}, Value: item},
		{Kind: 2, N: 1}, {Kind: 2, N: 2, Cost: [][]int{{1, 2}, {3}}}, {Kind: 2, N: 1, Cap: 1, Cost: [][]int{{0}}}, {Kind: 3, N: 1, Weight: item, Cost: [][]int{{0}}}, {Kind: 3, N: 1, Value: item, Cost: [][]int{{0}}},
		knapsack(-1, item, item), knapsack(1, []int{-1}, item), knapsack(1, item, []int{-1}), square(2, []int{-1}), square(3, []int{-1}),
		knapsack(1<<31, item, item), knapsack(1, []int{1 << 31}, item), knapsack(1, item, []int{1 << 31}), square(2, []int{1 << 31}), square(3, []int{0, 1}, []int{1 << 31, 0}),
		square(3, []int{5}), square(3, []int{0, 1}, []int{1, 5}),
	} {
		want := inst.Check(i)
		if want == api.OK {
			t.Fatal("a valid problem:", i)
		}
		for _, c := range []cert.Cert{
			{}, {Value: 1, X: []int{1}, Tree: "p"}, {X: []int{0}, Tree: "bpl"}, {X: []int{0}, Tree: "l"}, {Value: -1, X: []int{-1, 5}, Tree: "x"}, {X: make([]int, 100)},
		} {
			refused(t, i, c, want)
		}
	}
}

// lists: all of so many numbers out of those.
func lists(n int, numbers ...int) [][]int {
	if n == 0 {
		return [][]int{{}}
	}
	var all [][]int
	for _, l := range lists(n-1, numbers...) {
		for _, k := range numbers {
			all = append(all, append(slices.Clone(l), k))
		}
	}
	return all
}

// All short lists as X: no solution, one that is too heavy, and all solutions, with their value and with others.
func TestAllAnswers(t *testing.T) {
	r := rand.New(rand.NewSource(334))
	met := map[api.Errno]int{}
	small(r, 3, func(i api.Instance) {
		full := word(kernelOf(i), nil, math.MaxInt, never)
		for length := range 5 {
			for _, x := range lists(length, -1, 0, 1, 2, 3, 4) {
				cost, _ := value.Cost(i, x)
				for _, worth := range []int{value.Of(i, cost), value.Of(i, cost) + 1, value.Of(i, cost) - 1, 0, cost} {
					for _, text := range []string{full, "p", "", "x", full + "x"} {
						met[hold(t, i, cert.Cert{Value: worth, X: x, Tree: text})]++
					}
				}
			}
		}
	})
	for _, e := range []api.Errno{api.OK, api.ErrArg, api.ErrFull, api.ErrFalse, api.ErrShort, api.ErrSign, api.ErrTail} {
		if met[e] < 10 {
			t.Error("so seldom:", e, met[e])
		}
	}
}

func TestWrongAnswers(t *testing.T) {
	rows, cities := square(2, []int{1, 2}, []int{3, 9}), square(3, []int{0, 2, 5}, []int{3, 0, 4}, []int{1, 1, 0})
	for _, c := range []struct {
		i api.Instance
		x []int
		e api.Errno
	}{
		{two(), nil, api.ErrArg}, {two(), []int{1}, api.ErrArg}, {two(), []int{1, 0, 0}, api.ErrArg}, {two(), []int{1, 2}, api.ErrArg}, {two(), []int{-1, 1}, api.ErrArg}, {two(), []int{1, 1 << 32}, api.ErrArg}, {two(), []int{math.MinInt, 0}, api.ErrArg}, {two(), make([]int, 100), api.ErrArg},
		{two(), []int{1, 1}, api.ErrFull}, {knapsack(0, []int{1}, []int{1}), []int{1}, api.ErrFull}, {knapsack(4, []int{2, 3, 0}, []int{4, 3, 1}), []int{1, 1, 2}, api.ErrArg}, {knapsack(api.MaxEntry, []int{api.MaxEntry, api.MaxEntry}, []int{4, 3}), []int{1, 1}, api.ErrFull},
		{rows, nil, api.ErrArg}, {rows, []int{0}, api.ErrArg}, {rows, []int{0, 0}, api.ErrArg}, {rows, []int{1, 1}, api.ErrArg}, {rows, []int{0, 2}, api.ErrArg}, {rows, []int{-1, 0}, api.ErrArg}, {rows, []int{0, 1, 2}, api.ErrArg}, {rows, []int{0, 1, 1}, api.ErrArg}, {rows, []int{1, 1 << 32}, api.ErrArg}, {rows, []int{math.MinInt, math.MaxInt}, api.ErrArg},
		{cities, nil, api.ErrArg}, {cities, []int{0, 1}, api.ErrArg}, {cities, []int{1, 2}, api.ErrArg}, {cities, []int{1, 0, 2}, api.ErrArg}, {cities, []int{0, 1, 1}, api.ErrArg}, {cities, []int{0, 0, 1}, api.ErrArg}, {cities, []int{0, 1, 3}, api.ErrArg}, {cities, []int{0, 1, 2, 0}, api.ErrArg}, {cities, []int{0, 1, -2}, api.ErrArg},
		{square(3, []int{0}), []int{1}, api.ErrArg}, {square(3, []int{0}), nil, api.ErrArg}, {square(3, []int{0}), []int{0, 0}, api.ErrArg},
	} {
		for _, worth := range []int{0, 1, 7} { // whatever else is wrong as well
			for _, text := range []string{"", "x", "p", "l", "bll", "ppp"} {
				refused(t, c.i, cert.Cert{Value: worth, X: c.x, Tree: text}, c.e)
				hold(t, c.i, cert.Cert{Value: worth, X: c.x, Tree: text})
			}
		}
	}
}

// A Value that is another one comes ahead of all that is wrong with the Tree.
func TestWrongValues(t *testing.T) {
	for _, c := range []struct {
		i     api.Instance
		x     []int
		worth int
	}{
		{two(), []int{1, 0}, 4}, {two(), []int{0, 1}, 3}, {two(), []int{0, 0}, 0}, {square(2, []int{1, 2}, []int{3, 9}), []int{1, 0}, 5}, {square(3, []int{0, 2}, []int{3, 0}), []int{0, 1}, 5}, {square(3, []int{0}), []int{0}, 0},
	} {
		for _, worth := range []int{c.worth - 1, c.worth + 1, -c.worth - 1, 1 << 50, c.worth + 1<<32, math.MinInt, math.MaxInt} {
			for _, text := range []string{"", "x", "p", "l", "b", "pp", "bbllbl", "bpbl"} {
				refused(t, c.i, cert.Cert{Value: worth, X: c.x, Tree: text}, api.ErrFalse)
			}
		}
	}
	// A Knapsack's cost is no value.
	refused(t, two(), cert.Cert{Value: 3, X: []int{1, 0}, Tree: "bpbl"}, api.ErrFalse)
}

func TestWrongTrees(t *testing.T) {
	rows, single := square(2, []int{1, 2}, []int{3, 9}), square(3, []int{0})
	for _, c := range []struct {
		i     api.Instance
		worth int
		x     []int
		text  string
		e     api.Errno
	}{
		{two(), 4, []int{1, 0}, "bbllbl", api.OK}, {two(), 4, []int{1, 0}, "bpbl", api.OK}, {two(), 4, []int{1, 0}, "bpbp", api.OK}, {two(), 4, []int{1, 0}, "bbppbp", api.OK},
		{two(), 4, []int{1, 0}, "", api.ErrShort}, {two(), 4, []int{1, 0}, "b", api.ErrShort}, {two(), 4, []int{1, 0}, "bp", api.ErrShort}, {two(), 4, []int{1, 0}, "bpb", api.ErrShort}, {two(), 4, []int{1, 0}, "bbll", api.ErrShort},
		{two(), 4, []int{1, 0}, "x", api.ErrSign}, {two(), 4, []int{1, 0}, "B", api.ErrSign}, {two(), 4, []int{1, 0}, "b\xff", api.ErrSign}, {two(), 4, []int{1, 0}, "bpü", api.ErrSign}, {two(), 4, []int{1, 0}, "bp\n", api.ErrSign}, {two(), 4, []int{1, 0}, "bb\x00", api.ErrSign},
		{two(), 4, []int{1, 0}, "l", api.ErrForm}, {two(), 4, []int{1, 0}, "bl", api.ErrForm}, {two(), 4, []int{1, 0}, "bpl", api.ErrForm}, {two(), 4, []int{1, 0}, "bbb", api.ErrForm}, {two(), 4, []int{1, 0}, "bpbb", api.ErrForm},
		// The Bounds of the empty prefix and of 1 are 1, that of 0 is 4.
		{two(), 4, []int{1, 0}, "p", api.ErrFalse}, {two(), 4, []int{1, 0}, "px", api.ErrFalse}, {two(), 4, []int{1, 0}, "bpp", api.ErrFalse}, {two(), 4, []int{1, 0}, "bppx", api.ErrFalse},
		{two(), 3, []int{0, 1}, "bpb", api.ErrShort}, {two(), 3, []int{0, 1}, "bpbl", api.ErrFalse}, {two(), 3, []int{0, 1}, "bpbp", api.ErrFalse}, {two(), 3, []int{0, 1}, "bblx", api.ErrSign}, {two(), 3, []int{0, 1}, "bbllbl", api.ErrFalse},
		{two(), 0, []int{0, 0}, "bp", api.ErrFalse}, {two(), 0, []int{0, 0}, "bbl", api.ErrShort}, {two(), 0, []int{0, 0}, "bbp", api.ErrShort}, {two(), 0, []int{0, 0}, "bbll", api.ErrFalse}, {two(), 0, []int{0, 0}, "bblp", api.ErrFalse},
		{two(), 4, []int{1, 0}, "bpblx", api.ErrTail}, {two(), 4, []int{1, 0}, "bpblp", api.ErrTail}, {two(), 4, []int{1, 0}, "bpbl\xff", api.ErrTail}, {two(), 4, []int{1, 0}, "bbllblb", api.ErrTail}, {two(), 4, []int{1, 0}, "bpbpü", api.ErrTail}, {two(), 4, []int{1, 0}, "bpbl\n", api.ErrTail},
		// Its only solutions cost 10 and 5, its Bound is 5.
		{rows, 5, []int{1, 0}, "p", api.OK}, {rows, 5, []int{1, 0}, "pp", api.ErrTail}, {rows, 5, []int{1, 0}, "bpp", api.OK}, {rows, 5, []int{1, 0}, "bblbl", api.OK}, {rows, 5, []int{1, 0}, "l", api.ErrForm}, {rows, 5, []int{1, 0}, "bblb", api.ErrShort},
		{rows, 10, []int{0, 1}, "p", api.ErrFalse}, {rows, 10, []int{0, 1}, "bpp", api.ErrFalse}, {rows, 10, []int{0, 1}, "bp", api.ErrShort}, {rows, 10, []int{0, 1}, "bblbl", api.ErrFalse}, {rows, 10, []int{0, 1}, "bblp", api.ErrFalse},
		{single, 0, []int{0}, "l", api.OK}, {single, 0, []int{0}, "p", api.OK}, {single, 0, []int{0}, "b", api.ErrForm}, {single, 0, []int{0}, "", api.ErrShort}, {single, 0, []int{0}, "lx", api.ErrTail}, {single, 0, []int{0}, "x", api.ErrSign},
	} {
		given := cert.Cert{Value: c.worth, X: c.x, Tree: c.text}
		refused(t, c.i, given, c.e)
		hold(t, c.i, given)
	}
}

// Every solution of tiny problems with every Tree of few letters: accepted only if it is a best one.
func TestAllSmallTrees(t *testing.T) {
	r := rand.New(rand.NewSource(335))
	all := texts(6, "pblx")
	accepted, others := 0, 0
	small(r, 3, func(i api.Instance) {
		_, _, lowest := best(i)
		for _, x := range solutions(i) {
			cost, _ := value.Cost(i, x)
			for _, text := range all {
				e := hold(t, i, cert.Cert{Value: value.Of(i, cost), X: x, Tree: text})
				switch {
				case e == api.OK:
					accepted++
				case cost > lowest && readable(i, text):
					others++ // a complete search, but of no use for this solution
				}
			}
		}
	})
	if accepted < 100 || others < 100 {
		t.Error(accepted, others)
	}
}

// A right certificate of which one thing was changed: it is refused, or its solution is a best one all the same.
func TestChangedCertificates(t *testing.T) {
	r := rand.New(rand.NewSource(336))
	met := map[api.Errno]int{}
	small(r, 4, func(i api.Instance) {
		for _, cut := range []func([]int) bool{never, always, sometimes(r)} {
			c := proof(i, cut)
			for at := range c.Tree {
				for _, sign := range []string{"p", "b", "l", "x", "P", "ü", "\xff", "", "pp", "bl", "lp"} {
					changed := c
					changed.Tree = c.Tree[:at] + sign + c.Tree[at+1:]
					met[hold(t, i, changed)]++
				}
				changed := c
				changed.Tree = c.Tree[:at]
				if e := hold(t, i, changed); e != api.ErrShort {
					t.Fatal("cut short:", changed, e)
				}
			}
			for _, tail := range []string{"p", "b", "l", "x", "ü", "\xff", "\n", strings.Repeat("x", 5000)} {
				changed := c
				changed.Tree += tail
				if e := hold(t, i, changed); e != api.ErrTail {
					t.Fatal("behind the end:", changed, e)
				}
			}
			for at := range c.X {
				for _, n := range []int{0, 1, c.X[at] + 1, c.X[at] - 1, -1, 64, c.X[at] + 1<<32} {
					changed := c
					changed.X = slices.Clone(c.X)
					changed.X[at] = n
					met[hold(t, i, changed)]++
				}
			}
			for _, x := range solutions(i) {
				changed := c
				changed.X = x
				met[hold(t, i, changed)]++
				changed.Value, _ = value.Value(i, x)
				met[hold(t, i, changed)]++
			}
			for _, more := range []int{1, -1, 7, 1 << 40, math.MinInt} {
				changed := c
				changed.Value += more
				if e := hold(t, i, changed); e != api.ErrFalse {
					t.Fatal("another value:", changed, e)
				}
			}
		}
	})
	for _, e := range []api.Errno{api.OK, api.ErrArg, api.ErrSign, api.ErrForm, api.ErrFull, api.ErrFalse, api.ErrShort, api.ErrTail} {
		if met[e] < 20 {
			t.Error("so seldom:", e, met[e])
		}
	}
}

// At each prefix of small problems a p is right just if the Bound is not below the lowest cost.
func TestPrunedPrefixes(t *testing.T) {
	r := rand.New(rand.NewSource(337))
	equal, below := 0, 0
	visitAll := func(i api.Instance) {
		x, worth, cost := best(i)
		k := kernelOf(i)
		var visit func(p []int)
		visit = func(p []int) {
			bound, _ := k.Bound(p)
			text := wordWith(k, nil, p)
			want := api.OK
			switch {
			case bound < cost:
				want = api.ErrFalse
				below++
			case bound == cost:
				equal++
			}
			refused(t, i, cert.Cert{Value: worth, X: x, Tree: text}, want)
			for _, q := range followers(k, p) {
				visit(q)
			}
		}
		visit(nil)
	}
	for range 8 {
		small(r, 5, visitAll)
	}
	if equal < 100 || below < 100 {
		t.Error(equal, below)
	}
}
