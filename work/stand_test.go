package work_test

import (
	"fmt"
	"math/rand"
	"slices"
	"testing"

	"kurgan/api"
	"kurgan/cell"
	"kurgan/count"
	"kurgan/dive"
	"kurgan/exact"
	"kurgan/gen"
	"kurgan/heap"
	"kurgan/inc"
	"kurgan/kernel"
	"kurgan/log"
	"kurgan/pool"
	"kurgan/tape"
	"kurgan/value"
	"kurgan/work"
)

func knapsack(room int, weight, worth []int) api.Instance {
	return api.Instance{Kind: 1, N: len(weight), Cap: room, Weight: weight, Value: worth}
}

func square(kind int, rows ...[]int) api.Instance {
	return api.Instance{Kind: kind, N: len(rows), Cost: rows}
}

// drawn is a problem of a kind with numbers below top.
func drawn(r *rand.Rand, kind, n, top int) api.Instance {
	i, _ := gen.Make(kind, n, top-1, r.Uint64())
	if kind == api.Knapsack {
		i.Cap = r.Intn(min(n*top/2+1, api.MaxEntry))
	}
	return i
}

// size is how many workers and slots there are, and how many levels each heap has.
type size struct{ workers, slots, levels int }

// stand is workers on one problem, after each of whose Steps everything is held against the chapter's words. The first solution is the plain one, so that there are better ones to be found.
type stand struct {
	t       *testing.T
	i       api.Instance
	k       *kernel.Kernel
	m       *cell.Mem
	p       *pool.Pool
	heaps   []*heap.Heap
	inc     *inc.Inc
	count   *count.Count
	tape    *tape.Tape
	workers []*work.Worker
	lowest  int   // of a best solution, found in another way
	unmet   []int // of each worker: the cost of its last Leaf
	told    []int // who made the Steps
}

func parts(t *testing.T, i api.Instance, c size, draws []int) *stand {
	t.Helper()
	s := &stand{t: t, i: i, tape: tape.New(nil, draws)}
	var e [5]api.Errno
	s.k, e[0] = kernel.Of(i)
	each, at := heap.Cells(c.levels, c.slots), pool.Cells(c.slots)
	s.m, e[1] = cell.New(at + c.workers*each + 3)
	s.p, e[2] = pool.New(s.m, 0, c.slots, c.workers)
	for who := range c.workers {
		h, wrong := heap.New(s.m, at+who*each, c.levels, s.p)
		if wrong != api.OK {
			t.Fatal(c, wrong)
		}
		s.heaps = append(s.heaps, h)
	}
	x := value.Plain(i)
	cost, _ := value.Cost(i, x)
	s.inc, e[3] = inc.New(s.m, at+c.workers*each, c.workers, x, cost)
	s.count, e[4] = count.New(s.m, at+c.workers*each+1, 1, c.workers)
	if e != [5]api.Errno{} {
		t.Fatal(i, c, e)
	}
	return s
}

func (s *stand) shared() work.Shared {
	return work.Shared{Kernel: s.k, Pool: s.p, Heaps: s.heaps, Inc: s.inc, Count: s.count, Tape: s.tape}
}

func (s *stand) takeSlot() int {
	a := s.p.Take(0)
	for !a.Step() {
	}
	return a.Slot()
}

// put puts a prefix into a heap.
func (s *stand) put(h *heap.Heap, p []int, draws []int) int {
	slot := s.takeSlot()
	bound, _ := s.k.Bound(p)
	s.p.Keep(slot, pool.Node{Path: p, Bound: bound})
	a := h.Push(slot, draws)
	for !a.Step() {
	}
	if !a.Fits() {
		s.t.Fatal("no place for", p)
	}
	return slot
}

func (s *stand) hire() {
	s.t.Helper()
	for who := range s.heaps {
		w, e := work.New(s.shared(), who)
		if e != api.OK {
			s.t.Fatal(who, e)
		}
		s.workers = append(s.workers, w)
		s.unmet = append(s.unmet, -1)
	}
}

// built has the empty prefix in the first heap.
func built(t *testing.T, i api.Instance, c size, draws []int) *stand {
	t.Helper()
	s := parts(t, i, c, draws)
	s.put(s.heaps[0], nil, nil)
	s.hire()
	_, s.lowest, _ = exact.Best(i)
	s.hold()
	return s
}

func (s *stand) fail(what ...any) {
	s.t.Helper()
	s.t.Fatal(append(what, "of", s.i, "slots", s.p.Slots(), "places", s.heaps[0].Places(), "after", s.told)...)
}

// step makes a worker's next Step; false: it has halted.
func (s *stand) step(who int) bool {
	s.t.Helper()
	if s.workers[who].Halted() {
		return false
	}
	s.watch(who)
	s.hold()
	return true
}

// watch makes a Step, and looks at the steps of the memory and at the events.
func (s *stand) watch(who int) {
	s.t.Helper()
	w := s.workers[who]
	before, had := s.m.Steps(), w.Log().Len()
	_, lowest := s.inc.Best()
	s.told = append(s.told, who)
	w.Step()
	if made := s.m.Steps() - before; made < 0 || made > 1 {
		s.fail("a Step made so many steps:", made)
	}
	_, now := s.inc.Best()
	if now > lowest {
		s.fail("the lowest cost rose", lowest, now)
	}
	if w.Log().Len() == had && !w.Halted() {
		return
	}
	if s.unmet[who] >= 0 && now > s.unmet[who] {
		s.fail("a Leaf was not offered:", s.unmet[who], now)
	}
	s.unmet[who] = -1
	s.judge(who, w.Log().All()[had:], now)
}

// judge holds new events against the lowest cost: the worker knew that or a higher one.
func (s *stand) judge(who int, met []log.Record, lowest int) {
	s.t.Helper()
	for k, r := range met {
		bound, e := s.k.Bound(r.Path)
		right := e == api.OK
		switch r.Kind {
		case dive.Pruned:
			right = right && bound >= lowest
		case dive.Leaf:
			right = right && len(r.Path) == s.k.Depth() && k == len(met)-1
			s.unmet[who] = bound
		case dive.Branch:
			right = right && len(r.Path) < s.k.Depth()
		default:
			right = false
		}
		if right && r.Kind != dive.Pruned && len(s.workers) == 1 {
			right = bound < lowest // no other worker made it fall
		}
		if !right {
			s.fail("event", r, "with", lowest)
		}
	}
}

// hold: each slot is free, in exactly one heap, or held by exactly one worker; no more are in heaps than are open; no search in place is too long.
func (s *stand) hold() {
	s.t.Helper()
	free := s.p.Shared()
	for who := range s.workers {
		free = append(free, s.p.Own(who)...)
	}
	var queued, held []int
	for _, h := range s.heaps {
		queued = append(queued, slices.Concat(h.Lists()...)...)
	}
	for _, w := range s.workers {
		held = append(held, w.Holds()...)
		if w.Frames() < 0 || w.Frames() > s.k.Depth()+1 || w.Halted() && (len(w.Holds()) > 0 || w.Frames() != 0) {
			s.fail("holds", w.Holds(), "frames", w.Frames(), "halted", w.Halted())
		}
	}
	all := slices.Sorted(slices.Values(slices.Concat(free, queued, held)))
	right := len(all) == s.p.Slots()
	for k, slot := range all {
		right = right && k == slot
	}
	if open, _ := s.count.Now(); !right || len(queued) > open || open == 0 && len(free) < s.p.Slots() {
		s.fail("free", free, "queued", queued, "held", held, "open", open)
	}
}

func (s *stand) halted() bool {
	return !slices.ContainsFunc(s.workers, func(w *work.Worker) bool { return !w.Halted() })
}

// alone steps one worker to its end.
func (s *stand) alone(who int) {
	s.t.Helper()
	for s.step(who) {
		if len(s.told) > 1000000 {
			s.fail("no end")
		}
	}
}

// turn steps all once, in an order; false: all have halted.
func (s *stand) turn(order []int) bool {
	s.t.Helper()
	going := false
	for _, who := range order {
		going = s.step(who) || going
	}
	return going
}

// ended holds a stand all of whose workers have halted.
func (s *stand) ended() {
	s.t.Helper()
	s.hold()
	x, cost := s.inc.Best()
	really, e := value.Cost(s.i, x)
	open, active := s.count.Now()
	if !s.halted() || open != 0 || active < 1 || e != api.OK || really != cost || cost != s.lowest {
		s.fail("at the end", s.halted(), open, active, x, cost, really, e, s.lowest)
	}
	s.complete()
	before := s.m.Steps()
	for _, w := range s.workers {
		had := w.Log().Len()
		w.Step()
		if s.m.Steps() != before || w.Log().Len() != had || !w.Halted() || len(w.Holds()) > 0 || w.Frames() != 0 {
			s.fail("behind the end")
		}
	}
}

// complete: the records are one of the empty prefix, and one of each Kid of each Branch, and nothing else; and nothing was pruned that may be better than the best.
func (s *stand) complete() {
	s.t.Helper()
	records := map[string]log.Record{}
	for _, w := range s.workers {
		for _, r := range w.Log().All() {
			key := fmt.Sprint(r.Path)
			if _, twice := records[key]; twice {
				s.fail("twice:", r)
			}
			records[key] = r
		}
	}
	paths := [][]int{nil}
	for len(paths) > 0 {
		p := paths[len(paths)-1]
		paths = paths[:len(paths)-1]
		r, there := records[fmt.Sprint(p)]
		delete(records, fmt.Sprint(p))
		if bound, _ := s.k.Bound(p); !there || r.Kind != dive.Branch && bound < s.lowest {
			s.fail("record of", p, r, there)
		}
		if r.Kind == dive.Branch {
			kids, _ := s.k.Kids(p)
			for _, kid := range kids {
				paths = append(paths, append(slices.Clone(p), kid))
			}
		}
	}
	if len(records) > 0 {
		s.fail("nobody asked for", records)
	}
}

// most is R.
func (s *stand) most() int {
	places := 0
	for _, h := range s.heaps {
		places += h.Places()
	}
	return 400*(kernel.Count(s.i)+2) + 100*(places+10)
}
