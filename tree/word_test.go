package tree_test

import (
	"math"
	"math/rand"
	"slices"
	"testing"

	"kurgan/api"
	"kurgan/dive"
	"kurgan/kernel"
	"kurgan/log"
	"kurgan/solver"
	"kurgan/tape"
	"kurgan/tree"
)

// Searches in place: without a least cost, and with some.
func TestSearchesInPlace(t *testing.T) {
	r := rand.New(rand.NewSource(291))
	met := tree.Sums{}
	small(r, 5, func(i api.Instance, k *kernel.Kernel) {
		least, _ := k.Bound(nil)
		for _, cost := range []int{math.MaxInt, least + 9, least + 1, least} {
			l := searched(k, cost)
			both(t, r, k, l)
			sums := tree.Count(l)
			met.Pruned, met.Branch, met.Leaf = met.Pruned+sums.Pruned, met.Branch+sums.Branch, met.Leaf+sums.Leaf
		}
	})
	if met.Pruned < 300 || met.Branch < 300 || met.Leaf < 100 {
		t.Error("too few of a kind:", met)
	}
}

// The records of machines of one to several workers: as they are joined, and as each worker has them.
func TestMachines(t *testing.T) {
	r := rand.New(rand.NewSource(292))
	for workers := 1; workers <= 6; workers++ {
		small(r, 6, func(i api.Instance, k *kernel.Kernel) {
			picks := make([]int, 500)
			for at := range picks {
				picks[at] = r.Intn(workers)
			}
			c := solver.Config{Workers: workers, Slots: 1 + r.Intn(20), Levels: 1 + r.Intn(4)}
			m, e := solver.New(i, c, tape.New(picks, []int{r.Intn(50), r.Intn(50), r.Intn(50)}))
			if e != api.OK || !m.All(1000000) {
				t.Fatal(i, c, e)
			}
			word := both(t, r, k, m.Met())
			var each []log.Record
			for _, w := range m.Workers() {
				each = append(each, w.Log().All()...)
			}
			if got := both(t, r, k, each); got != word {
				t.Fatal(got, word)
			}
		})
	}
}

// Complete searches that no least cost leads to.
func TestAnySearches(t *testing.T) {
	r := rand.New(rand.NewSource(293))
	for range 20 {
		small(r, 5, func(i api.Instance, k *kernel.Kernel) { both(t, r, k, anySearch(r, k, nil)) })
	}
}

func TestWordExamples(t *testing.T) {
	cities := api.Instance{Kind: 3, N: 3, Cost: [][]int{{0, 9, 1}, {9, 0, 9}, {1, 9, 0}}} // whose Kids are 2 1
	tour, _ := kernel.Of(cities)
	single, _ := kernel.Of(api.Instance{Kind: 3, N: 1, Cost: [][]int{{0}}}) // whose empty prefix is complete
	heavy, _ := kernel.Of(api.Instance{Kind: 1, N: 1, Weight: []int{1}, Value: []int{1}})
	for _, c := range []struct {
		k    *kernel.Kernel
		l    []log.Record
		word string
	}{
		{oneItem(), []log.Record{{Kind: 2}, {Kind: 3, Path: []int{1}}, {Kind: 3, Path: []int{0}}}, "bll"},
		{oneItem(), []log.Record{{Kind: 2}, {Kind: 3, Path: []int{1}}, {Kind: 1, Path: []int{0}}}, "bpl"},
		{oneItem(), []log.Record{{Kind: 1, Path: []int{}}}, "p"},
		{heavy, []log.Record{{Kind: 2}, {Kind: 3, Path: []int{0}}}, "bl"},
		{tour, []log.Record{{Kind: 2}, {Kind: 2, Path: []int{2}}, {Kind: 3, Path: []int{2, 1}}, {Kind: 1, Path: []int{1}}}, "bpbl"},
		{single, []log.Record{{Kind: 3}}, "l"},
		{single, []log.Record{{Kind: 1}}, "p"},
	} {
		if got, e := tree.Word(c.k, c.l); got != c.word || e != api.OK {
			t.Error(c.l, got, e, "not", c.word)
		}
	}
}

// A search in which one thing is wrong: a record is missing, is there twice, is of another kind, has another Path, or is one too many.
func TestNoSearches(t *testing.T) {
	r := rand.New(rand.NewSource(294))
	for range 3 {
		small(r, 4, func(i api.Instance, k *kernel.Kernel) {
			l := anySearch(r, k, nil)
			for at, record := range l {
				refused(t, k, shuffled(r, slices.Delete(slices.Clone(l), at, at+1)))
				refused(t, k, shuffled(r, append(slices.Clone(l), record)))
				for _, kind := range []int{dive.Pruned, dive.Branch, dive.Leaf} {
					changed := slices.Clone(l)
					changed[at].Kind = kind
					holdWord(t, k, changed)
					holdWord(t, k, shuffled(r, changed))
					twice := slices.Insert(slices.Clone(l), r.Intn(len(l)+1), log.Record{Kind: kind, Path: record.Path})
					refused(t, k, twice)
				}
				for _, kind := range []int{0, -1, 4, 5, 256 + 1, math.MinInt, math.MaxInt, 1<<32 + 2} {
					changed := slices.Clone(l)
					changed[at].Kind = kind
					refused(t, k, changed)
				}
				for _, path := range others(r, k, record.Path) {
					changed := slices.Clone(l)
					changed[at].Path = path
					refused(t, k, shuffled(r, changed))
					more := slices.Insert(slices.Clone(l), r.Intn(len(l)+1), log.Record{Kind: 1 + r.Intn(3), Path: path})
					holdWord(t, k, more)
				}
				if record.Kind != dive.Branch { // a record more below what has nothing below it
					for _, n := range []int{-1, 0, 1, 2, 9} {
						refused(t, k, append(slices.Clone(l), log.Record{Kind: dive.Pruned, Path: append(slices.Clone(record.Path), n)}))
					}
				}
			}
		})
	}
}

// others: paths beside one, each of another one's length or with another number.
func others(r *rand.Rand, k *kernel.Kernel, p []int) [][]int {
	l := [][]int{append(slices.Clone(p), 0), append(slices.Clone(p), 77), slices.Repeat([]int{0}, k.Depth()+1), {-1}, {math.MinInt}, {math.MaxInt, 0}}
	if len(p) > 0 {
		at := r.Intn(len(p))
		for _, n := range []int{-1, 99, 1 << 32, p[at] + 64, p[at] - 128} {
			q := slices.Clone(p)
			q[at] = n
			l = append(l, q)
		}
		l = append(l, p[:len(p)-1])
	}
	return l
}

func refused(t *testing.T, k *kernel.Kernel, l []log.Record) {
	t.Helper()
	if word, e := tree.Word(k, l); word != "" || e != api.ErrForm {
		t.Fatalf("Word(%v) = %q, %d", l, word, e)
	}
	holdWord(t, k, l)
}

func TestNoRecords(t *testing.T) {
	r := rand.New(rand.NewSource(295))
	small(r, 4, func(i api.Instance, k *kernel.Kernel) {
		refused(t, k, nil)
		refused(t, k, []log.Record{})
		refused(t, k, []log.Record{{}})
		refused(t, k, []log.Record{{Kind: dive.Pruned, Path: []int{0}}})
	})
}

// Another problem's search: of another size or kind, or with other Kids.
func TestOtherProblems(t *testing.T) {
	r := rand.New(rand.NewSource(296))
	var kernels []*kernel.Kernel
	small(r, 4, func(i api.Instance, k *kernel.Kernel) { kernels = append(kernels, k) })
	wrong := 0
	for _, k := range kernels {
		l := searched(k, math.MaxInt)
		for _, other := range kernels {
			holdWord(t, other, l)
			if _, e := tree.Word(other, l); e == api.ErrForm {
				wrong++
			}
		}
	}
	if wrong < len(kernels)*len(kernels)/2 {
		t.Error("so few are wrong:", wrong)
	}
	fits, _ := kernel.Of(api.Instance{Kind: 1, N: 1, Cap: 1, Weight: []int{1}, Value: []int{1}})
	heavy, _ := kernel.Of(api.Instance{Kind: 1, N: 1, Cap: 1, Weight: []int{2}, Value: []int{1}})
	refused(t, heavy, searched(fits, 9))
	refused(t, fits, searched(heavy, 9))
}

// A Leaf of a prefix that is not complete, and a Branch of one that is; a Pruned may be both.
func TestKindsByLength(t *testing.T) {
	k := oneItem()
	refused(t, k, []log.Record{{Kind: dive.Leaf}})
	refused(t, k, []log.Record{{Kind: dive.Branch}, {Kind: dive.Branch, Path: []int{0}}, {Kind: dive.Leaf, Path: []int{1}}})
	refused(t, k, []log.Record{{Kind: dive.Branch}, {Kind: dive.Leaf, Path: []int{0}}, {Kind: dive.Branch, Path: []int{1}}})
	if word, e := tree.Word(k, []log.Record{{Kind: dive.Branch}, {Kind: dive.Pruned, Path: []int{0}}, {Kind: dive.Pruned, Path: []int{1}}}); word != "bpp" || e != api.OK {
		t.Error(word, e)
	}
}

// ErrArg comes first, whatever the records are.
func TestWordWithoutKernel(t *testing.T) {
	for _, k := range []*kernel.Kernel{nil, {}} {
		for _, l := range [][]log.Record{nil, {}, {{}}, {{Kind: dive.Leaf}}, {{Kind: dive.Pruned}}, {{Kind: 9, Path: []int{-4}}}, searched(oneItem(), 9)} {
			if word, e := tree.Word(k, l); word != "" || e != api.ErrArg {
				t.Error(l, word, e)
			}
		}
	}
}

// What is passed is neither changed nor kept, nor is what stands behind its end.
func TestRecordsStay(t *testing.T) {
	r := rand.New(rand.NewSource(297))
	small(r, 4, func(i api.Instance, k *kernel.Kernel) {
		var room []log.Record
		for _, record := range shuffled(r, searched(k, math.MaxInt)) {
			path := append(make([]int, 0, 20), record.Path...)
			room = append(room, log.Record{Kind: record.Kind, Path: path})
		}
		room = append(room, log.Record{Kind: 77, Path: []int{7}}, log.Record{Kind: 78})
		l := room[:len(room)-2]
		before := copied(room)
		word, _ := tree.Word(k, l)
		kept := []byte(word)
		tree.Count(l)
		if !sameAll(room, before) {
			t.Fatal("changed:", room)
		}
		for at := range l {
			if path := l[at].Path; slices.ContainsFunc(path[len(path):cap(path)], func(n int) bool { return n != 0 }) {
				t.Fatal("changed behind the end:", path[:cap(path)])
			}
			l[at] = log.Record{}
		}
		if word != string(kept) {
			t.Fatal("the word hangs on the records")
		}
	})
}

func TestCount(t *testing.T) {
	deep := slices.Repeat([]int{5}, 300)
	for _, c := range []struct {
		l    []log.Record
		want tree.Sums
	}{
		{nil, tree.Sums{}},
		{[]log.Record{}, tree.Sums{}},
		{[]log.Record{{Kind: dive.Pruned}}, tree.Sums{Pruned: 1}},
		{[]log.Record{{Kind: dive.Branch}}, tree.Sums{Branch: 1}},
		{[]log.Record{{Kind: dive.Leaf}}, tree.Sums{Leaf: 1}},
		{[]log.Record{{Kind: 0}, {Kind: 4}, {Kind: -1}, {Kind: math.MinInt}, {Kind: math.MaxInt}}, tree.Sums{}},
		{[]log.Record{{Kind: 2}, {Kind: 3, Path: []int{1}}, {Kind: 1, Path: []int{0}}}, tree.Sums{Pruned: 1, Branch: 1, Leaf: 1, Depth: 1}},
		{[]log.Record{{Kind: 1, Path: []int{-5, 0, -5}}, {Kind: 1, Path: []int{-5, 0, -5}}, {Kind: 3, Path: []int{2}}}, tree.Sums{Pruned: 2, Leaf: 1, Depth: 3}},
		{[]log.Record{{Kind: 9, Path: []int{1, 2, 3, 4}}, {Kind: 2, Path: []int{1}}}, tree.Sums{Branch: 1, Depth: 4}},
		{[]log.Record{{Kind: 2}, {Kind: 2, Path: deep}, {Kind: 2, Path: deep[:20]}}, tree.Sums{Branch: 3, Depth: 300}},
	} {
		before := copied(c.l)
		if got := tree.Count(c.l); got != c.want {
			t.Error(c.l, got, "not", c.want)
		}
		if !sameAll(c.l, before) {
			t.Error("Count changed its list to", c.l)
		}
	}
}

// Of drawn records of many kinds and lengths.
func TestCountOfMany(t *testing.T) {
	r := rand.New(rand.NewSource(298))
	for range 200 {
		var l []log.Record
		kinds := map[int]int{}
		depth := 0
		for range r.Intn(80) {
			record := log.Record{Kind: r.Intn(6) - 1, Path: make([]int, r.Intn(9))}
			kinds[record.Kind]++
			depth = max(depth, len(record.Path))
			l = append(l, record)
		}
		if got := tree.Count(l); got != (tree.Sums{Pruned: kinds[1], Branch: kinds[2], Leaf: kinds[3], Depth: depth}) {
			t.Fatal(l, got)
		}
	}
}
