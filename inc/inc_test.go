package inc_test

import (
	"math"
	"slices"
	"testing"

	"kurgan/api"
	"kurgan/cell"
	"kurgan/inc"
)

const most = 1 << 50

func memory(t *testing.T, cells int) *cell.Mem {
	t.Helper()
	m, e := cell.New(cells)
	if e != api.OK {
		t.Fatal(e)
	}
	return m
}

// made is an incumbent in the middle one of three cells.
func made(t *testing.T, workers int, x []int, cost int) (*inc.Inc, *cell.Mem) {
	t.Helper()
	m := memory(t, 3)
	m.Set(0, 71)
	m.Set(2, 73)
	i, e := inc.New(m, 1, workers, x, cost)
	if i == nil || e != api.OK {
		t.Fatal(i, e)
	}
	return i, m
}

// best holds what an incumbent tells against a solution and its cost, and that it makes the steps it may make.
func best(t *testing.T, i *inc.Inc, m *cell.Mem, x []int, cost int) {
	t.Helper()
	steps := m.Steps()
	if got, c := i.Best(); !slices.Equal(got, x) || c != cost || m.Steps() != steps {
		t.Fatalf("Best is %v, %d, not %v, %d, with %d steps", got, c, x, cost, m.Steps()-steps)
	}
	if c := i.Look(); c != cost || m.Steps() != steps+1 || m.Last().Kind != cell.Read || m.Last().Cell != 1 {
		t.Fatalf("Look is %d, not %d, by %v", c, cost, m.Last())
	}
	if m.Peek(0) != 71 || m.Peek(2) != 73 {
		t.Fatal("other cells were changed", m.All())
	}
}

// offer goes through an act alone, and tells whether the solution was taken.
func offer(t *testing.T, i *inc.Inc, m *cell.Mem, worker int, x []int, cost int) bool {
	t.Helper()
	steps := m.Steps()
	a := i.Offer(worker, x, cost)
	if a == nil || a.Over() || a.Taken() || m.Steps() != steps {
		t.Fatal("an act is begun", a, m.Steps()-steps)
	}
	for made := 1; ; made++ {
		done := a.Step()
		if done != a.Over() || m.Steps() > steps+made || made > 2 || !done && a.Taken() {
			t.Fatal("Step", made, done, a.Over(), a.Taken(), m.Steps()-steps)
		}
		if done {
			break
		}
	}
	steps, taken, cells := m.Steps(), a.Taken(), m.All()
	for range 3 {
		if !a.Step() || !a.Over() || a.Taken() != taken || m.Steps() != steps || !slices.Equal(m.All(), cells) {
			t.Fatal("behind its end an act goes on")
		}
	}
	return taken
}

func TestNew(t *testing.T) {
	m := memory(t, 4)
	for _, c := range []struct {
		m                 *cell.Mem
		at, workers, cost int
		e                 api.Errno
	}{
		{m, 0, 1, 0, api.OK}, {m, 3, 16, most, api.OK}, {m, 1, 2, 1, api.OK}, {m, 2, 15, most - 1, api.OK},
		{nil, 0, 1, 0, api.ErrArg}, {&cell.Mem{}, 0, 1, 0, api.ErrArg},
		{m, -1, 1, 0, api.ErrArg}, {m, 4, 1, 0, api.ErrArg}, {m, 5, 1, 0, api.ErrArg}, {m, math.MinInt, 1, 0, api.ErrArg}, {m, math.MaxInt, 1, 0, api.ErrArg},
		{m, 0, 0, 0, api.ErrArg}, {m, 0, -1, 0, api.ErrArg}, {m, 0, 17, 0, api.ErrArg}, {m, 0, math.MinInt, 0, api.ErrArg}, {m, 0, math.MaxInt, 0, api.ErrArg},
		{m, 0, 1, -1, api.ErrArg}, {m, 0, 1, most + 1, api.ErrArg}, {m, 0, 1, math.MinInt, api.ErrArg}, {m, 0, 1, math.MaxInt, api.ErrArg},
		{nil, -1, 0, -1, api.ErrArg},
	} {
		before, steps := c.m.All(), c.m.Steps()
		i, e := inc.New(c.m, c.at, c.workers, []int{4, 2}, c.cost)
		if e != c.e || (i == nil) != (e != api.OK) {
			t.Errorf("New(%d, %d, %d) = %v, %d, not %d", c.at, c.workers, c.cost, i, e, c.e)
			continue
		}
		if e != api.OK {
			if !slices.Equal(c.m.All(), before) || c.m.Steps() != steps {
				t.Errorf("New(%d, %d, %d) is wrong and changed the memory", c.at, c.workers, c.cost)
			}
			continue
		}
		if c.m.Steps() > steps+1 {
			t.Error("New makes more than a step", c.m.Steps()-steps)
		}
		for at, n := range c.m.All() {
			if at != c.at && n != before[at] {
				t.Error("New changed the cell", at)
			}
		}
		if x, cost := i.Best(); !slices.Equal(x, []int{4, 2}) || cost != c.cost || i.Look() != c.cost {
			t.Error(x, cost, c.cost)
		}
	}
}

func TestNewWithoutCells(t *testing.T) {
	for _, at := range []int{-1, 0, 1} {
		if i, e := inc.New(memory(t, 0), at, 1, nil, 0); i != nil || e != api.ErrArg {
			t.Error(at, i, e)
		}
	}
	i, e := inc.New(memory(t, 1), 0, 1, nil, 5)
	if x, cost := i.Best(); e != api.OK || len(x) != 0 || cost != 5 {
		t.Error(e, x, cost)
	}
}

func TestNewWorkers(t *testing.T) {
	for workers := 1; workers <= 16; workers++ {
		i, m := made(t, workers, []int{0}, most)
		for worker := range workers {
			if !offer(t, i, m, worker, []int{1, worker}, 100-worker) {
				t.Fatal(workers, worker)
			}
			best(t, i, m, []int{1, worker}, 100-worker)
		}
		for _, worker := range []int{-1, workers, workers + 1, 2 * workers, 16, 17, 32, math.MinInt, math.MaxInt} {
			if worker >= 0 && worker < workers {
				continue
			}
			if a := i.Offer(worker, []int{9}, 0); a != nil {
				t.Fatal("there is no worker", worker, "of", workers)
			}
		}
		best(t, i, m, []int{1, workers - 1}, 100-workers+1)
	}
}

func TestOfferOfEachCost(t *testing.T) {
	for _, first := range []int{0, 1, 2, 9, most - 1, most} {
		for _, cost := range []int{math.MinInt, -most, -1, 0, 1, 2, 8, 9, 10, most - 1, most, most + 1, 1 << 62, math.MaxInt} {
			i, m := made(t, 3, []int{1}, first)
			steps := m.Steps()
			if cost < 0 || cost > most {
				if a := i.Offer(1, []int{2}, cost); a != nil || m.Steps() != steps {
					t.Fatal("an offer of", cost)
				}
				best(t, i, m, []int{1}, first)
				continue
			}
			if taken := offer(t, i, m, 1, []int{2}, cost); taken != (cost < first) {
				t.Fatal(cost, "after", first, "is taken:", taken)
			}
			if cost < first {
				best(t, i, m, []int{2}, cost)
			} else {
				best(t, i, m, []int{1}, first)
			}
		}
	}
}

func TestExample(t *testing.T) {
	i, m := made(t, 2, []int{0, 0}, 9)
	a := i.Offer(0, []int{0, 1}, 7)
	if a.Step() || !a.Step() || !a.Taken() {
		t.Fatal("not over after two Steps, and taken")
	}
	if offer(t, i, m, 1, []int{1, 0}, 8) {
		t.Fatal("8 is taken after 7")
	}
	best(t, i, m, []int{0, 1}, 7)
}

// One worker offers again and again: what falls is taken, what does not isn't, and the solution is always the one whose cost is told.
func TestManyOffers(t *testing.T) {
	for workers := 1; workers <= 16; workers += 5 {
		for worker := range workers {
			i, m := made(t, workers, []int{-1}, 1000)
			x, least := []int{-1}, 1000
			for round := range 400 {
				cost := least - 3 + round*7%6
				if taken := offer(t, i, m, worker, []int{round, cost}, cost); taken != (cost < least) {
					t.Fatal(round, cost, least, taken)
				}
				if cost < least {
					x, least = []int{round, cost}, cost
				}
				best(t, i, m, x, least)
			}
		}
	}
}

// The same cost, once more: it is not less.
func TestEqualCosts(t *testing.T) {
	i, m := made(t, 2, []int{7}, 5)
	for worker := range 2 {
		if offer(t, i, m, worker, []int{8}, 5) {
			t.Fatal("an equal cost is taken")
		}
		if !offer(t, i, m, worker, []int{9, worker}, 4-worker) || offer(t, i, m, worker, []int{10}, 4-worker) || offer(t, i, m, 1-worker, []int{11}, 4-worker) {
			t.Fatal("a cost is to be taken once")
		}
		best(t, i, m, []int{9, worker}, 4-worker)
	}
}

func TestNils(t *testing.T) {
	for _, i := range []*inc.Inc{nil, {}} {
		if x, cost := i.Best(); i.Look() != 0 || len(x) != 0 || cost != 0 {
			t.Error(x, cost)
		}
		for _, worker := range []int{-1, 0, 1, 16} {
			for _, cost := range []int{-1, 0, 5, most, most + 1} {
				if i.Offer(worker, []int{1}, cost) != nil {
					t.Error("an offer to none", worker, cost)
				}
			}
		}
	}
	for _, a := range []*inc.Act{nil, {}} {
		for range 3 {
			if !a.Step() || !a.Over() || a.Taken() {
				t.Error("an act of none", a.Over(), a.Taken())
			}
		}
	}
}

// Acts that are begun and never end hinder nobody.
func TestOffersThatAreDropped(t *testing.T) {
	i, m := made(t, 2, []int{1}, 100)
	for round := range 50 {
		i.Offer(0, []int{-9}, 0)
		i.Offer(1, []int{-8}, 0).Step()
		i.Offer(0, []int{-7}, 1).Step()
		cost := 99 - round
		if !offer(t, i, m, round%2, []int{round}, cost) {
			t.Fatal(round)
		}
		best(t, i, m, []int{round}, cost)
	}
}

// The chapter lets a worker have one act at a time; two of them still lose no solution.
func TestTwoActsOfOneWorker(t *testing.T) {
	for first := range 4 {
		i, m := made(t, 1, []int{0}, 100)
		for round := range first {
			offer(t, i, m, 0, []int{round}, 90-round)
		}
		a, b := i.Offer(0, []int{5}, 50), i.Offer(0, []int{6}, 40)
		a.Step()
		b.Step()
		if !b.Step() || !b.Taken() {
			t.Fatal("the second one is taken")
		}
		best(t, i, m, []int{6}, 40)
		for k := 0; !a.Step(); k++ {
			best(t, i, m, []int{6}, 40)
			if k == 4 {
				t.Fatal("it goes on")
			}
		}
		if a.Taken() {
			t.Fatal("the first one is taken")
		}
		best(t, i, m, []int{6}, 40)
	}
}

// x is neither kept nor changed, nor is what stands behind it; and Best's answer is the caller's.
func TestListsAreCopied(t *testing.T) {
	list := func(l ...int) []int { return append(make([]int, 0, 9), l...) }
	spoil := func(l []int) {
		for at := range l[:cap(l)] {
			l[:cap(l)][at] = -5
		}
	}
	x := list(1, 2)
	i, m := made(t, 2, x, 50)
	if !slices.Equal(x[:9], []int{1, 2, 0, 0, 0, 0, 0, 0, 0}) {
		t.Fatal("New changed its list", x[:9])
	}
	spoil(x)
	best(t, i, m, []int{1, 2}, 50)
	for round := range 5 {
		for worker := range 2 {
			x, cost := list(round, worker, 3), 40-2*round-worker
			a := i.Offer(worker, x, cost)
			before := slices.Clone(x[:9])
			if round%2 == 0 {
				spoil(x)
				a.Step()
				a.Step()
			} else {
				a.Step()
				a.Step()
				if !slices.Equal(x[:9], before) {
					t.Fatal("an act changed its list", x[:9])
				}
				spoil(x)
			}
			best(t, i, m, []int{round, worker, 3}, cost)
			one, _ := i.Best()
			other, _ := i.Best()
			spoil(one)
			if !slices.Equal(other, []int{round, worker, 3}) {
				t.Fatal("two answers share memory")
			}
			best(t, i, m, []int{round, worker, 3}, cost)
		}
	}
}

// Several incumbents in one memory don't touch each other.
func TestSeveralIncumbents(t *testing.T) {
	m := memory(t, 5)
	var l []*inc.Inc
	for at := range 5 {
		i, e := inc.New(m, at, 2, []int{at}, 10*at+10)
		if e != api.OK {
			t.Fatal(e)
		}
		l = append(l, i)
	}
	a := l[2].Offer(0, []int{77}, 3)
	a.Step()
	a.Step()
	for at, i := range l {
		x, cost := i.Best()
		if want := []int{at}; at != 2 && (!slices.Equal(x, want) || cost != 10*at+10) || at == 2 && (!slices.Equal(x, []int{77}) || cost != 3) {
			t.Error(at, x, cost)
		}
	}
}

// Whatever others write to the cell, each call ends.
func TestCellOfOthers(t *testing.T) {
	for _, n := range []int{math.MinInt, math.MinInt + 1, -1, 0, 1, 31, 32, 63, 1 << 40, math.MaxInt - 1, math.MaxInt} {
		i, m := made(t, 1, []int{1}, 50)
		m.Set(1, n)
		i.Best()
		i.Look()
		a := i.Offer(0, []int{2}, 7)
		for k := 0; !a.Step(); k++ {
			if k == 4 {
				t.Fatal("it goes on", n)
			}
		}
		if a.Taken() {
			best(t, i, m, []int{2}, 7)
		}
		a = i.Offer(0, []int{2}, 7)
		a.Step()
		m.Set(1, n/2+1)
		for k := 0; !a.Step(); k++ {
			if k == 4 {
				t.Fatal("it goes on", n)
			}
		}
	}
}
