package work_test

import (
	"math"
	"math/rand"
	"slices"
	"testing"

	"kurgan/api"
	"kurgan/count"
	"kurgan/dive"
	"kurgan/exact"
	"kurgan/gen"
	"kurgan/heap"
	"kurgan/inc"
	"kurgan/kernel"
	"kurgan/log"
	"kurgan/pool"
	"kurgan/tape"
	"kurgan/work"
)

var pair = square(2, []int{1, 2}, []int{3, 9})

func TestNewErrors(t *testing.T) {
	s := parts(t, pair, size{3, 4, 2}, nil)
	for name, change := range map[string]func(*work.Shared){
		"Kernel":     func(s *work.Shared) { s.Kernel = nil },
		"Pool":       func(s *work.Shared) { s.Pool = nil },
		"Heaps":      func(s *work.Shared) { s.Heaps = nil },
		"no Heap":    func(s *work.Shared) { s.Heaps = []*heap.Heap{} },
		"first Heap": func(s *work.Shared) { s.Heaps = []*heap.Heap{nil, s.Heaps[1], s.Heaps[2]} },
		"own Heap":   func(s *work.Shared) { s.Heaps = []*heap.Heap{s.Heaps[0], nil, s.Heaps[2]} },
		"last Heap":  func(s *work.Shared) { s.Heaps = []*heap.Heap{s.Heaps[0], s.Heaps[1], nil} },
		"Inc":        func(s *work.Shared) { s.Inc = nil },
		"Count":      func(s *work.Shared) { s.Count = nil },
		"Tape":       func(s *work.Shared) { s.Tape = nil },
		"all":        func(s *work.Shared) { *s = work.Shared{} },
	} {
		shared := s.shared()
		change(&shared)
		if w, e := work.New(shared, 1); w != nil || e != api.ErrArg {
			t.Error(name, w, e)
		}
	}
	for _, me := range []int{math.MinInt, -1, 3, 4, math.MaxInt} {
		if w, e := work.New(s.shared(), me); w != nil || e != api.ErrArg {
			t.Error(me, w, e)
		}
	}
	for me := range 3 {
		w, e := work.New(s.shared(), me)
		if w == nil || e != api.OK || w.Halted() || len(w.Holds()) != 0 || w.Frames() != 0 || w.Log() == nil || w.Log().Len() != 0 {
			t.Error(me, w, e)
		}
	}
}

// New keeps the heaps, but not their list.
func TestHeapsAreNotKept(t *testing.T) {
	s := built(t, pair, size{2, 4, 2}, nil)
	shared := s.shared()
	shared.Heaps = slices.Clone(shared.Heaps)
	w, _ := work.New(shared, 0)
	if !slices.Equal(shared.Heaps, s.heaps) {
		t.Error("changed")
	}
	shared.Heaps[0], shared.Heaps[1] = nil, nil
	s.workers[0] = w
	s.alone(0)
	s.alone(1)
	s.ended()
}

func TestNilAndZero(t *testing.T) {
	var none *work.Worker
	for _, w := range []*work.Worker{none, {}} {
		w.Step()
		if !w.Halted() || len(w.Holds()) != 0 || w.Frames() != 0 || w.Log().Len() != 0 {
			t.Error(w)
		}
	}
	if none.Log() != nil {
		t.Error("a nil worker has a log")
	}
}

// No part is nil, but none of them was made by its New: no Step panics.
func TestZeroParts(t *testing.T) {
	for part := range 6 {
		s := parts(t, pair, size{1, 4, 2}, nil)
		s.put(s.heaps[0], nil, nil)
		shared := s.shared()
		switch part {
		case 0:
			shared.Kernel = &kernel.Kernel{}
		case 1:
			shared.Pool = &pool.Pool{}
		case 2:
			shared.Heaps = []*heap.Heap{{}}
		case 3:
			shared.Inc = &inc.Inc{}
		case 4:
			shared.Count = &count.Count{}
		default:
			shared.Tape = &tape.Tape{}
		}
		w, e := work.New(shared, 0)
		if e != api.OK {
			t.Fatal(part, e)
		}
		for range 1000 {
			w.Step()
		}
		if part == 5 && !w.Halted() {
			t.Error("not halted")
		}
	}
}

// A slot whose Node is no prefix is given back, and no solution comes of it.
func TestNoPrefix(t *testing.T) {
	for _, p := range [][]int{{2}, {0, 0}, {0, 1, 2}, {-1}} {
		s := parts(t, pair, size{1, 4, 2}, nil)
		s.put(s.heaps[0], p, nil)
		s.hire()
		s.alone(0)
		x, cost := s.inc.Best()
		if open, _ := s.count.Now(); open != 0 || s.workers[0].Log().Len() != 0 || cost != 10 || !slices.Equal(x, []int{0, 1}) {
			t.Error(p, open, x, cost)
		}
	}
}

// A complete prefix that comes from a heap is a Leaf if it costs less than the lowest cost, and is offered.
func TestLeafFromHeap(t *testing.T) {
	for _, c := range []struct {
		p    []int
		kind int
		cost int
	}{
		{[]int{1, 0}, dive.Leaf, 5},
		{[]int{0, 1}, dive.Pruned, 10}, // it costs as much as the first solution
	} {
		s := parts(t, pair, size{1, 4, 2}, nil)
		s.put(s.heaps[0], c.p, nil)
		s.hire()
		s.alone(0)
		x, cost := s.inc.Best()
		want := []log.Record{{Kind: c.kind, Path: c.p}}
		if got := s.workers[0].Log().All(); !slices.EqualFunc(got, want, same) || cost != c.cost || !slices.Equal(x, c.p) {
			t.Error(got, x, cost)
		}
	}
}

// Ahead of, at and behind the end of a problem with three prefixes.
func TestToTheEnd(t *testing.T) {
	s := built(t, knapsack(5, []int{3}, []int{4}), size{1, 1, 1}, nil)
	w := s.workers[0]
	root := s.heaps[0].Lists()[0][0]
	saw := map[string]int{}
	for s.step(0) {
		holds := w.Holds()
		if len(holds) > 0 && !slices.Equal(holds, []int{root}) {
			t.Error(holds)
		}
		if len(holds) == 1 {
			saw["held"]++
		}
		if w.Frames() > 0 || w.Halted() && len(holds) > 0 {
			t.Error("frames of single prefixes", w.Frames(), holds)
		}
	}
	if saw["held"] == 0 {
		t.Error(saw)
	}
	s.ended()
	want := []log.Record{{Kind: dive.Branch}, {Kind: dive.Leaf, Path: []int{1}}, {Kind: dive.Pruned, Path: []int{0}}}
	if got := w.Log().All(); !slices.EqualFunc(got, want, same) {
		t.Error(got)
	}
}

func same(a, b log.Record) bool { return a.Kind == b.Kind && slices.Equal(a.Path, b.Path) }

// While nothing of the heaps can be had and something is open, a worker leaves; the last one doesn't, but starts again, until nothing is open any more.
func TestLeaving(t *testing.T) {
	for workers := 2; workers <= 16; workers++ {
		s := built(t, pair, size{workers, 4, 1}, nil)
		for len(s.workers[0].Holds()) == 0 {
			s.step(0)
		}
		for who := 1; who < workers; who++ {
			s.alone(who)
			if open, active := s.count.Now(); open != 1 || active != workers-who || s.workers[who].Log().Len() != 0 {
				t.Fatal(who, open, active)
			}
		}
		s.alone(0)
		s.ended()
	}
}

func TestLastOneStays(t *testing.T) {
	s := built(t, pair, size{1, 4, 2}, nil)
	s.count.More(1) // somebody has something, though nobody else is active
	for range 5000 {
		if !s.step(0) {
			t.Fatal("halted")
		}
	}
	s.count.More(-1)
	s.alone(0)
	s.ended()
}

// A worker that finds its own heap empty steals, from any heap and place. It begins with a place that is drawn.
func TestStealing(t *testing.T) {
	i := square(2, []int{1, 20, 40}, []int{0, 90, 0}, []int{0, 0, 0}) // so that each of the three comes to a place of its own
	first := map[int]int{}
	for draw := range 9 {
		s := parts(t, i, size{3, 4, 2}, []int{draw})
		s.put(s.heaps[1], []int{0}, []int{0})
		s.count.More(2) // three are open
		s.put(s.heaps[1], []int{1}, []int{0})
		s.put(s.heaps[1], []int{2}, []int{1})
		slots := slices.Concat(s.heaps[1].Lists()...)
		s.hire()
		for len(s.workers[2].Holds()) == 0 {
			s.step(2)
		}
		first[s.workers[2].Holds()[0]]++
		if used := len(slices.Concat(s.heaps[1].Lists()...)); used != 2 || len(slots) != 3 {
			t.Error(slots, used)
		}
		s.alone(2)
		if open, _ := s.count.Now(); open != 0 || s.workers[2].Log().Len() < 3 {
			t.Error(open)
		}
		s.alone(0)
		s.alone(1)
	}
	if len(first) != 3 {
		t.Error("whatever is drawn, first stolen are", first)
	}
}

// Leaves of the mound are drawn from the tape, too.
func TestDrawnLeaves(t *testing.T) {
	i := drawn(rand.New(rand.NewSource(260)), api.Assignment, 6, 1000)
	for _, draws := range [][]int{nil, {1, 2, 3, 0, 3, 2, 1, 0, 2, 2, 1, 3, 3, 3, 1, 2, 0, 1, 2, 3, 2, 1, 3, 2}} {
		s := built(t, i, size{1, 30, 3}, draws)
		used := map[int]int{}
		for s.step(0) {
			for place, l := range s.heaps[0].Lists() {
				used[place+1] += len(l)
			}
		}
		s.ended()
		left := used[1]*used[2] > 0
		if right := used[3]+used[5]+used[6]+used[7] > 0; !left || right != (len(draws) > 0) {
			t.Error(draws, used)
		}
	}
}

// What Holds returns is newly allocated.
func TestHoldsAreNew(t *testing.T) {
	s := built(t, pair, size{1, 4, 2}, nil)
	for s.step(0) {
		l := s.workers[0].Holds()
		for k := range l {
			l[k] = 99
		}
		_ = append(l, 98)
		s.hold()
	}
	s.ended()
}

// At the limits: some thousand Steps of problems that no other way solves.
func TestGreat(t *testing.T) {
	r := rand.New(rand.NewSource(261))
	for kind, n := range map[int]int{1: 64, 2: 24, 3: 24} {
		for _, c := range []size{{16, 40, 6}, {2, 4096, 6}, {16, 1, 1}, {3, 17, 2}} {
			i := drawn(r, kind, n, api.MaxEntry)
			s := built(t, i, c, []int{r.Int(), -r.Int(), math.MaxInt, math.MinInt, -1})
			for k := range 3000 {
				who := r.Intn(c.workers)
				s.workers[who].Step()
				if k%20 == 0 || c.slots < 50 {
					s.hold()
				}
			}
		}
	}
}

// lowered offers a best solution in the midst of a worker's search, as another worker may, and answers the events that come behind that.
func lowered(s *stand, steps int) []log.Record {
	for range steps {
		s.step(0)
	}
	had := s.workers[0].Log().Len()
	x, cost, _ := exact.Best(s.i)
	for a := s.inc.Offer(0, x, cost); !a.Step(); {
	}
	s.alone(0)
	s.ended()
	return s.workers[0].Log().All()[had:]
}

// hard is a problem with a search of some hundred prefixes.
func hard() api.Instance {
	i, _ := gen.Make(api.Tour, 8, 999, 114)
	return i
}

// In place, the lowest cost is looked up before each prefix.
func TestLooksInPlace(t *testing.T) {
	seen := 0
	for steps := 10; steps < 150; steps++ {
		s := built(t, hard(), size{1, 1, 1}, nil)
		for _, r := range lowered(s, steps) {
			seen++
			if r.Kind != dive.Pruned {
				if bound, _ := s.k.Bound(r.Path); bound >= s.lowest {
					t.Fatal(steps, r, bound, s.lowest)
				}
			}
		}
	}
	if seen < 1000 {
		t.Error(seen)
	}
}

// Otherwise it is looked up before each prefix that comes from a heap, and kept for its Kids.
func TestLooksForEachSlot(t *testing.T) {
	seen := 0
	for steps := 10; steps < 150; steps++ {
		s := built(t, hard(), size{1, 30, 4}, nil)
		met := lowered(s, steps)
		all := s.workers[0].Log().All()
		var under []int // the last prefix that was branched ahead of the offer
		for _, r := range all[:len(all)-len(met)] {
			if r.Kind == dive.Branch {
				under = r.Path
			}
		}
		for _, r := range met {
			seen++
			bound, _ := s.k.Bound(r.Path)
			if kid := len(r.Path) > 0 && slices.Equal(r.Path[:len(r.Path)-1], under); r.Kind != dive.Pruned && bound >= s.lowest && !kid {
				t.Fatal(steps, r, bound, s.lowest)
			}
		}
	}
	if seen < 1000 {
		t.Error(seen)
	}
}
