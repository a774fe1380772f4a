package show_test

import (
	"fmt"
	"math"
	"math/rand"
	"slices"
	"strings"
	"testing"

	"kurgan/api"
	"kurgan/inst"
	"kurgan/kernel"
	"kurgan/log"
	"kurgan/show"
	"kurgan/solver"
	"kurgan/tape"
	"kurgan/tree"
	"kurgan/value"
)

func two() (api.Instance, *kernel.Kernel) {
	i := api.Instance{Kind: api.Assignment, N: 2, Cost: [][]int{{1, 2}, {3, 9}}}
	k, _ := kernel.Of(i)
	return i, k
}

func TestLine(t *testing.T) {
	_, k := two()
	for _, c := range []struct {
		r    log.Record
		want string
	}{
		{log.Record{Kind: 1}, "root pruned at 5"}, {log.Record{Kind: 2, Path: []int{}}, "root branch at 5"}, {log.Record{Kind: 3}, "root leaf at 5"},
		{log.Record{Kind: 1, Path: []int{0}}, "  0 pruned at 10"}, {log.Record{Kind: 2, Path: []int{1}}, "  1 branch at 5"},
		{log.Record{Kind: 3, Path: []int{1, 0}}, "    0 leaf at 5"}, {log.Record{Kind: 1, Path: []int{0, 1}}, "    1 pruned at 10"},
	} {
		if got, e := show.Line(k, c.r); got != c.want || e != api.OK {
			t.Errorf("Line(%v) = %q, %d", c.r, got, e)
		}
	}
}

// All prefixes with each Kind, whether it could be its or not.
func TestLines(t *testing.T) {
	small(rand.New(rand.NewSource(611)), func(i api.Instance, k *kernel.Kernel) {
		for _, p := range prefixes(k, nil) {
			for kind := -1; kind <= 5; kind++ {
				r := log.Record{Kind: kind, Path: p}
				got, e := show.Line(k, r)
				if kind < 1 || kind > 3 {
					if got != "" || e != api.ErrForm {
						t.Fatal(i, r, got, e)
					}
				} else if got != plainLine(k, r) || e != api.OK {
					t.Fatal(i, r, got, e)
				}
			}
		}
	})
}

func TestLineErrors(t *testing.T) {
	_, k := two()
	for _, none := range []*kernel.Kernel{nil, {}} {
		for _, r := range []log.Record{{}, {Kind: 1}, {Kind: 3, Path: []int{0}}, {Kind: 4}, {Kind: -1, Path: []int{5}}} {
			if got, e := show.Line(none, r); got != "" || e != api.ErrArg {
				t.Error(r, got, e)
			}
		}
	}
	for _, p := range [][]int{{-1}, {2}, {0, 0}, {1, 1}, {0, 1, 0}, {0, 2}, {math.MaxInt}, {math.MinInt}} {
		for kind := -1; kind <= 5; kind++ { // both errors at once, too
			if got, e := show.Line(k, log.Record{Kind: kind, Path: p}); got != "" || e != api.ErrArg {
				t.Error(p, kind, got, e)
			}
		}
	}
	for _, kind := range []int{0, 4, -1, 5, math.MaxInt, math.MinInt, 1<<32 + 1} {
		for _, p := range [][]int{nil, {}, {0}, {1, 0}} {
			if got, e := show.Line(k, log.Record{Kind: kind, Path: p}); got != "" || e != api.ErrForm {
				t.Error(p, kind, got, e)
			}
		}
	}
	full, _ := kernel.Of(api.Instance{Kind: api.Knapsack, N: 2, Cap: 3, Weight: []int{2, 2}, Value: []int{5, 5}})
	if got, e := show.Line(full, log.Record{Kind: 1, Path: []int{1, 1}}); got != "" || e != api.ErrArg {
		t.Error(got, e)
	}
	if got, e := show.Line(full, log.Record{Kind: 3, Path: []int{1, 0}}); got != "    0 leaf at 5" || e != api.OK {
		t.Error(got, e)
	}
}

func TestTree(t *testing.T) {
	_, k := two()
	l := []log.Record{{Kind: 3, Path: []int{1, 0}}, {Kind: 2}, {Kind: 2, Path: []int{1}}, {Kind: 1, Path: []int{0}}}
	const whole = "root branch at 5\n  0 pruned at 10\n  1 branch at 5\n    0 leaf at 5\n"
	for depth, want := range map[int]string{0: "root branch at 5\n", 1: whole[:strings.LastIndex(whole, "    0")], 2: whole, 3: whole, math.MaxInt: whole} {
		if got, e := show.Tree(k, l, depth); got != want || e != api.OK {
			t.Errorf("%d: %q, %d", depth, got, e)
		}
	}
	if got, e := show.Tree(k, []log.Record{{Kind: 1}}, 0); got != "root pruned at 5\n" || e != api.OK {
		t.Errorf("%q, %d", got, e)
	}
}

// Whole searches in several orders, down to each depth and beyond.
func TestTrees(t *testing.T) {
	r := rand.New(rand.NewSource(612))
	small(r, func(i api.Instance, k *kernel.Kernel) {
		least, _ := k.Bound(nil)
		for _, from := range []int{math.MaxInt, least + 1 + r.Intn(least+10), least} {
			l := searched(k, from)
			for depth := range k.Depth() + 3 {
				handed := shuffled(r, l)
				kept := copied(handed)
				if got, e := show.Tree(k, handed, depth); got != plainTree(k, l, depth) || e != api.OK {
					t.Fatal(i, depth, got, e)
				}
				if !sameRecords(handed, kept) {
					t.Fatal("changed")
				}
			}
			if got, e := show.Tree(k, l, -1); got != "" || e != api.ErrArg {
				t.Fatal(got, e)
			}
		}
	})
}

// Machines' searches.
func TestMachines(t *testing.T) {
	r := rand.New(rand.NewSource(613))
	for round := range 30 {
		i := drawn(r, 1+round%3, 7, 100)
		k, _ := kernel.Of(i)
		m, _ := solver.New(i, solver.Config{Workers: 3, Slots: 20, Levels: 3}, tape.New(tape.Mixed(3, 300, 5), nil))
		if !m.All(1000000) {
			t.Fatal(i)
		}
		for _, depth := range []int{0, 1, 3, 7, 64} {
			if got, e := show.Tree(k, m.Met(), depth); got != plainTree(k, m.Met(), depth) || e != api.OK {
				t.Fatal(i, depth, got, e)
			}
		}
	}
}

// Records that are no whole search, also with a depth below 0.
func TestTreeErrors(t *testing.T) {
	r := rand.New(rand.NewSource(614))
	_, two := two()
	depths := []int{0, 1, 9, -1, math.MinInt, math.MaxInt}
	for _, depth := range depths {
		for _, none := range []*kernel.Kernel{nil, {}} {
			for _, l := range [][]log.Record{nil, {{Kind: 1}}, {{Kind: 7}}} {
				if got, e := show.Tree(none, l, depth); got != "" || e != api.ErrArg {
					t.Error(l, depth, got, e)
				}
			}
		}
		for _, l := range [][]log.Record{nil, {}, {{Kind: 2}}, {{}}, {{Kind: 4}}, {{Kind: 3}}, {{Kind: 1}, {Kind: 1}}, {{Kind: 1, Path: []int{0}}}, {{Kind: 1}, {Kind: 1, Path: []int{0}}}, {{Kind: 2}, {Kind: 1, Path: []int{0}}}, {{Kind: 2}, {Kind: 1, Path: []int{0}}, {Kind: 1, Path: []int{2}}}} {
			if got, e := show.Tree(two, l, depth); got != "" || e != api.ErrForm {
				t.Error(l, depth, got, e)
			}
		}
	}
	small(r, func(i api.Instance, k *kernel.Kernel) {
		whole := searched(k, math.MaxInt)
		at := r.Intn(len(whole))
		for _, l := range [][]log.Record{slices.Delete(copied(whole), at, at+1), append(copied(whole), whole[at])} {
			for _, depth := range depths {
				if got, e := show.Tree(k, l, depth); got != "" || e != api.ErrForm {
					t.Fatal(i, l, got, e)
				}
				_, want := tree.Word(k, l)
				if want != api.ErrForm {
					t.Fatal(want)
				}
			}
		}
		if got, e := show.Tree(k, whole, math.MinInt); got != "" || e != api.ErrArg {
			t.Fatal(got, e)
		}
	})
}

func TestTable(t *testing.T) {
	for _, c := range []struct {
		i    api.Instance
		want string
	}{
		{api.Instance{Kind: 1, N: 1, Cap: 5, Weight: []int{3}, Value: []int{4}}, "3 4\n"},
		{api.Instance{Kind: 1, N: 3, Cap: 123456, Weight: []int{3, 10, 0}, Value: []int{400, 0, 7}}, "  3 400\n 10   0\n  0   7\n"},
		{api.Instance{Kind: 2, N: 2, Cost: [][]int{{1, 2}, {3, 19}}}, " 1  2\n 3 19\n"},
		{api.Instance{Kind: 2, N: 1, Cost: [][]int{{2147483647}}}, "2147483647\n"},
		{api.Instance{Kind: 3, N: 1, Cost: [][]int{{0}}}, "0\n"},
		{api.Instance{Kind: 3, N: 3, Cost: [][]int{{0, 5, 100}, {7, 0, 2147483647}, {10, 1, 0}}}, "         0          5        100\n         7          0 2147483647\n        10          1          0\n"},
		{api.Instance{Kind: 2, N: 12, Cost: slices.Repeat([][]int{make([]int, 12)}, 12)}, strings.Repeat("0 0 0 0 0 0 0 0 0 0 0 0\n", 12)},
	} {
		if got, e := show.Table(c.i); got != c.want || e != api.OK {
			t.Errorf("Table(%v) = %q, %d", c.i, got, e)
		}
	}
}

// Problems of each kind with numbers of one digit and of many, up to the greatest.
func TestTables(t *testing.T) {
	r := rand.New(rand.NewSource(615))
	for kind, most := range map[int]int{1: 64, 2: 24, 3: 24} {
		for n := 1; n <= most; n++ {
			for _, top := range []int{1, 10, 11, 1000, 1 << 31} {
				i := drawn(r, kind, n, top)
				kept := inst.Copy(i)
				if got, e := show.Table(i); got != plainTable(i) || e != api.OK || !inst.Same(i, kept) {
					t.Fatalf("Table(%v) = %q, %d", i, got, e)
				}
			}
		}
	}
}

// wrongs are problems that are not valid.
func wrongs() []api.Instance {
	return []api.Instance{
		{}, {Kind: 4, N: 1}, {Kind: -1}, {Kind: 1}, {Kind: 2, N: -1}, {Kind: 1, N: 65}, {Kind: 2, N: 25}, {Kind: 3, N: 25}, {Kind: 1, N: 1}, {Kind: 2, N: 1}, {Kind: 3, N: 2, Cost: [][]int{{0}, {0}}}, {Kind: 2, N: 1, Cap: 1, Cost: [][]int{{0}}}, {Kind: 1, N: 1, Weight: []int{1}, Value: []int{1}, Cost: [][]int{{1}}},
		{Kind: 1, N: 1, Cap: -1, Weight: []int{1}, Value: []int{1}}, {Kind: 1, N: 1, Weight: []int{1 << 31}, Value: []int{1}}, {Kind: 2, N: 1, Cost: [][]int{{-1}}}, {Kind: 3, N: 1, Cost: [][]int{{1}}}, {Kind: 3, N: 2, Cost: [][]int{{0, 1 << 31}, {1, 0}}}, {Kind: math.MaxInt, N: math.MaxInt}, {Kind: 2, N: math.MaxInt},
	}
}

func TestWrongProblems(t *testing.T) {
	met := map[api.Errno]int{}
	for _, i := range wrongs() {
		want := inst.Check(i)
		met[want]++
		if got, e := show.Table(i); got != "" || e != want || e == api.OK {
			t.Errorf("Table(%v) = %q, %d", i, got, e)
		}
		for _, x := range [][]int{nil, {0}, {1}, {0, 1}} {
			if got, e := show.Answer(i, x); got != "" || e != want {
				t.Errorf("Answer(%v) = %q, %d", i, got, e)
			}
		}
	}
	for _, e := range []api.Errno{api.ErrKind, api.ErrArg, api.ErrBig, api.ErrForm} {
		if met[e] < 2 {
			t.Error(e, met)
		}
	}
}

func TestAnswer(t *testing.T) {
	items := api.Instance{Kind: 1, N: 3, Cap: 7, Weight: []int{2, 3, 4}, Value: []int{10, 0, 200}}
	light := api.Instance{Kind: 1, N: 12, Cap: 0, Weight: make([]int, 12), Value: slices.Repeat([]int{1}, 12)}
	rows, _ := two()
	ways := api.Instance{Kind: 3, N: 3, Cost: [][]int{{0, 9, 2}, {4, 0, 9}, {9, 1, 0}}}
	for _, c := range []struct {
		i    api.Instance
		x    []int
		want string
		e    api.Errno
	}{
		{items, []int{0, 0, 0}, "take: 0\n", api.OK}, {items, []int{1, 0, 0}, "take 0: 10\n", api.OK}, {items, []int{0, 1, 1}, "take 1 2: 200\n", api.OK}, {items, []int{1, 0, 1}, "take 0 2: 210\n", api.OK},
		{items, []int{1, 1, 1}, "", api.ErrFull}, {items, []int{1, 1}, "", api.ErrArg}, {items, nil, "", api.ErrArg}, {items, []int{2, 0, 0}, "", api.ErrArg}, {items, []int{0, -1, 0}, "", api.ErrArg}, {items, []int{1, 1, 1, 0}, "", api.ErrArg}, {items, []int{1, 1, 2}, "", api.ErrArg},
		{light, slices.Repeat([]int{1}, 12), "take 0 1 2 3 4 5 6 7 8 9 10 11: 12\n", api.OK},
		{rows, []int{0, 1}, "0 to 0; 1 to 1: 10\n", api.OK}, {rows, []int{1, 0}, "0 to 1; 1 to 0: 5\n", api.OK}, {rows, []int{1, 1}, "", api.ErrArg}, {rows, []int{0}, "", api.ErrArg}, {rows, []int{0, 2}, "", api.ErrArg}, {rows, []int{-1, 0}, "", api.ErrArg},
		{api.Instance{Kind: 2, N: 1, Cost: [][]int{{7}}}, []int{0}, "0 to 0: 7\n", api.OK},
		{ways, []int{0, 2, 1}, "0 > 2 > 1 > 0: 7\n", api.OK}, {ways, []int{0, 1, 2}, "0 > 1 > 2 > 0: 27\n", api.OK}, {ways, []int{1, 2, 0}, "", api.ErrArg}, {ways, []int{0, 1}, "", api.ErrArg}, {ways, []int{0, 1, 1}, "", api.ErrArg}, {ways, []int{0, 1, 3}, "", api.ErrArg},
		{api.Instance{Kind: 3, N: 1, Cost: [][]int{{0}}}, []int{0}, "0 > 0: 0\n", api.OK}, {api.Instance{Kind: 3, N: 1, Cost: [][]int{{0}}}, []int{1}, "", api.ErrArg},
	} {
		if got, e := show.Answer(c.i, c.x); got != c.want || e != c.e {
			t.Errorf("Answer(%v, %v) = %q, %d", c.i, c.x, got, e)
		}
	}
}

// plainAnswer is the chapter's Answer of a solution.
func plainAnswer(i api.Instance, x []int) string {
	text := "take"
	worth, last := 0, 0
	var l []string
	for at, n := range x {
		switch i.Kind {
		case api.Knapsack:
			if n == 1 {
				text, worth = fmt.Sprint(text, " ", at), worth+i.Value[at]
			}
		case api.Assignment:
			l, worth = append(l, fmt.Sprintf("%d to %d", at, n)), worth+i.Cost[at][n]
			text = strings.Join(l, "; ")
		default:
			l, worth = append(l, fmt.Sprint(n)), worth+i.Cost[last][n]
			text, last = strings.Join(append(l, "0"), " > "), n
		}
	}
	if i.Kind == api.Tour {
		worth += i.Cost[last][0]
	}
	return fmt.Sprintf("%s: %d\n", text, worth)
}

// All lists of small problems: solutions, and each error of others.
func TestAllAnswers(t *testing.T) {
	met := map[api.Errno]int{}
	small(rand.New(rand.NewSource(616)), func(i api.Instance, k *kernel.Kernel) {
		if i.N > 4 {
			return
		}
		for _, n := range []int{i.N, i.N - 1, i.N + 1} {
			lists(n, i.N+1, func(x []int) {
				_, want := value.Cost(i, x)
				met[want]++
				kept := slices.Clone(x)
				got, e := show.Answer(i, x)
				if e != want || e != api.OK && got != "" || e == api.OK && got != plainAnswer(i, x) || !slices.Equal(x, kept) {
					t.Fatal(i, x, got, e)
				}
			})
		}
	})
	if met[api.OK] < 100 || met[api.ErrArg] < 100 || met[api.ErrFull] < 20 {
		t.Error(met)
	}
}

// Solutions of problems of all sizes.
func TestAnswersOfAllSizes(t *testing.T) {
	r := rand.New(rand.NewSource(617))
	for kind, most := range map[int]int{1: 64, 2: 24, 3: 24} {
		for n := 1; n <= most; n++ {
			i := drawn(r, kind, n, 1<<31)
			x := r.Perm(n)
			switch kind {
			case api.Knapsack:
				i.Weight = make([]int, n)
				for at := range x {
					x[at] = r.Intn(2)
				}
			case api.Tour:
				at := slices.Index(x, 0)
				x[0], x[at] = 0, x[0]
			}
			if got, e := show.Answer(i, x); got != plainAnswer(i, x) || e != api.OK {
				t.Fatalf("Answer(%v, %v) = %q, %d", i, x, got, e)
			}
		}
	}
}
