package check

import (
	"math/rand"
	"slices"
	"testing"

	"kurgan/api"
	"kurgan/gen"
	"kurgan/kernel"
)

// mirrored is a Tour with the same costs both ways.
func mirrored(i api.Instance) api.Instance {
	for a := range i.Cost {
		for b := range a {
			i.Cost[a][b] = i.Cost[b][a]
		}
	}
	return i
}

// problems of a kind and size, with numbers of many sizes.
func problems(r *rand.Rand, kind, n int) []api.Instance {
	var all []api.Instance
	for _, most := range []int{0, 1, 2, 7, 100, api.MaxEntry} {
		for range 3 {
			i, _ := gen.Make(kind, n, most, r.Uint64())
			if kind == api.Knapsack {
				i.Cap = r.Intn(min(n*most/2+1, api.MaxEntry))
				if r.Intn(3) == 0 { // equal ratios, and items without weight or value
					for k := range i.Weight {
						i.Weight[k] = i.Value[k] / (1 + r.Intn(2)) * r.Intn(3) / 2
					}
				}
			}
			all = append(all, i)
			if kind == api.Tour {
				other, _ := gen.Make(kind, n, most, r.Uint64())
				all = append(all, mirrored(other))
			}
		}
	}
	return all
}

// hold holds what check knows of a prefix against the layers 11 to 13.
func hold(t *testing.T, i api.Instance, it problem, k *kernel.Kernel, p []int) []int {
	t.Helper()
	want, e := k.Bound(p)
	if got := it.bound(p); got != want || e != api.OK {
		t.Fatalf("%v: the bound of %v is %d, not %d, %d", i, p, got, want, e)
	}
	if it.depth() != k.Depth() {
		t.Fatal(i, it.depth(), k.Depth())
	}
	if len(p) == k.Depth() {
		return nil
	}
	kids, _ := k.Kids(p)
	slices.Sort(kids)
	if got := it.kids(p); !slices.Equal(got, kids) {
		t.Fatalf("%v: the kids of %v are %v, not %v", i, p, got, kids)
	}
	return kids
}

func TestBoundsOfAllPrefixes(t *testing.T) {
	r := rand.New(rand.NewSource(351))
	for kind, most := range map[int]int{api.Knapsack: 8, api.Assignment: 5, api.Tour: 6} {
		for n := 1; n <= most; n++ {
			for _, i := range problems(r, kind, n) {
				k, _ := kernel.Of(i)
				it := problemOf(i)
				var visit func(p []int)
				visit = func(p []int) {
					for _, kid := range hold(t, i, it, k, p) {
						visit(append(slices.Clone(p), kid))
					}
				}
				visit(nil)
			}
		}
	}
}

func TestBoundsOfGreatProblems(t *testing.T) {
	r := rand.New(rand.NewSource(352))
	for kind, sizes := range map[int][]int{api.Knapsack: {63, 64}, api.Assignment: {23, 24}, api.Tour: {23, 24}} {
		for _, n := range sizes {
			for _, i := range problems(r, kind, n) {
				k, _ := kernel.Of(i)
				it := problemOf(i)
				for range 5 {
					var p []int
					for kids := hold(t, i, it, k, p); len(kids) > 0; kids = hold(t, i, it, k, p) {
						p = append(p, kids[r.Intn(len(kids))])
					}
				}
			}
		}
	}
}

// For some symmetric Tours each of both numbers of the chapter decides.
func TestBothNumbersDecide(t *testing.T) {
	r := rand.New(rand.NewSource(353))
	matrix, ends := 0, 0
	for range 300 {
		i, _ := gen.Make(api.Tour, 3+r.Intn(5), 12, r.Uint64())
		both := problemOf(mirrored(i)).(cities)
		alone := cities{both.costs, false}
		halves := both.halved(0, both.kids(nil))
		switch first := alone.bound(nil); {
		case first > halves:
			matrix++
		case first < halves:
			ends++
		}
		k, _ := kernel.Of(i)
		hold(t, i, both, k, nil)
	}
	if matrix < 10 || ends < 10 {
		t.Error(matrix, ends)
	}
}
