package work_test

import (
	"math/rand"
	"slices"
	"testing"

	"kurgan/api"
)

// tiny problems, with heaps and pools that are too small and great enough.
var tiny = []api.Instance{
	knapsack(5, []int{3}, []int{4}),
	knapsack(4, []int{2, 3}, []int{4, 3}),
	knapsack(6, []int{2, 3, 4}, []int{4, 5, 7}),
	square(2, []int{7}),
	pair,
	square(2, []int{9, 1, 5}, []int{1, 8, 5}, []int{4, 4, 7}),
	square(3, []int{0}),
	square(3, []int{0, 5}, []int{7, 0}),
	square(3, []int{0, 9, 1}, []int{1, 0, 9}, []int{9, 2, 0}),
	square(3, []int{0, 9, 4, 1}, []int{1, 0, 9, 4}, []int{3, 2, 0, 8}, []int{9, 2, 6, 0}),
}

// Two workers, of whom one makes so many Steps, then the other one so many, and then each alone goes to its end: all such orders.
func TestTwoSwitches(t *testing.T) {
	for _, i := range tiny {
		for _, c := range []size{{2, 1, 1}, {2, 3, 1}, {2, 8, 2}} {
			for first := range 2 {
				switches(t, i, c, first)
			}
		}
	}
}

func switches(t *testing.T, i api.Instance, c size, first int) {
	t.Helper()
	for ahead := 0; ; ahead++ {
		for then := 0; ; then++ {
			s := built(t, i, c, []int{1})
			// What comes ahead of the last one of these Steps was held before, as the beginning of another order.
			if s.many(first, ahead) < ahead {
				return
			}
			made := s.many(1-first, then)
			s.hold()
			s.alone(first)
			s.alone(1 - first)
			s.ended()
			if made < then {
				break
			}
		}
	}
}

// many makes so many Steps of a worker, or as many as it makes before it halts.
func (s *stand) many(who, steps int) int {
	s.t.Helper()
	for made := range steps {
		if s.workers[who].Halted() {
			return made
		}
		s.watch(who)
	}
	return steps
}

// chooser tells who is picked next.
type chooser func(r *rand.Rand) int

// choosers are ways to pick: with even chances; one worker rarely; one mostly; each for a while.
func choosers(r *rand.Rand, workers int) []chooser {
	who, left := r.Intn(workers), 0
	return []chooser{
		func(r *rand.Rand) int { return r.Intn(workers) },
		func(r *rand.Rand) int {
			if w := r.Intn(workers); w != who || r.Intn(30) == 0 {
				return w
			}
			return (who + 1) % workers
		},
		func(r *rand.Rand) int {
			if r.Intn(12) > 0 {
				return who
			}
			return r.Intn(workers)
		},
		func(r *rand.Rand) int {
			if left--; left < 0 {
				who, left = r.Intn(workers), r.Intn(40)
			}
			return who
		},
	}
}

func someSize(r *rand.Rand) size {
	return size{1 + r.Intn([]int{2, 4, 16}[r.Intn(3)]), []int{1, 2, 3, 4, 7, 12, 40}[r.Intn(7)], []int{1, 1, 2, 3}[r.Intn(4)]}
}

func someDraws(r *rand.Rand) []int {
	var l []int
	for range r.Intn(300) {
		l = append(l, r.Int()-r.Int())
	}
	return l
}

func someProblem(r *rand.Rand) api.Instance {
	kind := 1 + r.Intn(3)
	return drawn(r, kind, 1+r.Intn([]int{0, 9, 6, 7}[kind]), []int{2, 9, 1000, api.MaxEntry}[r.Intn(4)])
}

// Orders that are drawn, of up to 16 workers.
func TestManyOrders(t *testing.T) {
	r := rand.New(rand.NewSource(264))
	working := 0
	for round := range 1200 {
		c := someSize(r)
		s := built(t, someProblem(r), c, someDraws(r))
		choose := choosers(r, c.workers)[round%4]
		for !s.halted() {
			s.step(choose(r))
		}
		s.ended()
		for _, w := range s.workers {
			if w.Log().Len() > 0 {
				working++
			}
		}
	}
	if working < 1500 {
		t.Error("hardly anybody steals:", working)
	}
}

// Stepped in turn, all have halted after R Steps of each, also if that begins in the midst of a run.
func TestInTurn(t *testing.T) {
	r := rand.New(rand.NewSource(265))
	for round := range 250 {
		c := someSize(r)
		c.levels = 1 + r.Intn(6)
		s := built(t, someProblem(r), c, someDraws(r))
		choose := choosers(r, c.workers)[round%4]
		for range r.Intn(400) * (round % 2) {
			s.step(choose(r))
		}
		order := r.Perm(c.workers)
		turns := 0
		for s.turn(order) {
			turns++
			if turns > s.most() {
				s.fail("not halted after R Steps of each:", turns)
			}
		}
		s.ended()
	}
}

// In turn, with each worker a Step or two between two of another one.
func TestNearlyInTurn(t *testing.T) {
	r := rand.New(rand.NewSource(266))
	for range 300 {
		c := someSize(r)
		s := built(t, someProblem(r), c, someDraws(r))
		turns := 0
		for s.turn(r.Perm(c.workers)) {
			turns++
			if turns > s.most() {
				s.fail("not halted after R Steps of each:", turns)
			}
		}
		s.ended()
	}
}

// Problems with so many prefixes that all workers have something to do: what one leaves behind in its heap is stolen.
func TestShareOfAll(t *testing.T) {
	r := rand.New(rand.NewSource(267))
	for _, workers := range []int{2, 3, 5} {
		s := built(t, drawn(r, api.Tour, 8, 1000), size{workers, 60, 3}, someDraws(r))
		for range 60 { // the first one has put Kids into its heap
			s.step(0)
		}
		order := r.Perm(workers)
		for s.turn(order) {
		}
		s.ended()
		for who, w := range s.workers {
			if w.Log().Len() == 0 {
				t.Error(who, "of", workers, "met nothing")
			}
		}
	}
}

// The same parts, draws and picks give the same logs, step by step.
func TestSameAgain(t *testing.T) {
	r := rand.New(rand.NewSource(268))
	for range 60 {
		c, i, draws := someSize(r), someProblem(r), someDraws(r)
		a, b := built(t, i, c, draws), built(t, i, c, draws)
		for !a.halted() {
			who := r.Intn(c.workers)
			if a.step(who) != b.step(who) || !slices.Equal(a.m.All(), b.m.All()) || !slices.Equal(a.workers[who].Holds(), b.workers[who].Holds()) {
				a.fail("not the same")
			}
		}
		for who := range c.workers {
			if !slices.EqualFunc(a.workers[who].Log().All(), b.workers[who].Log().All(), same) {
				a.fail("not the same log")
			}
		}
	}
}
