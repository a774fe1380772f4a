package solver_test

import (
	"math"
	"math/rand"
	"testing"

	"kurgan/api"
	"kurgan/solver"
	"kurgan/tape"
	"kurgan/work"
)

// picker tells who is picked next: with even chances, one worker mostly, one rarely, each for a while.
func picker(r *rand.Rand, way, workers int) func() int {
	who, left := r.Intn(workers), 0
	return func() int {
		left--
		switch {
		case way == 0 || way == 1 && r.Intn(12) == 0:
			return r.Intn(workers)
		case way == 1:
			return who
		case way == 2:
			if other := r.Intn(workers); other != who || r.Intn(30) == 0 {
				return other
			}
			return (who + 1) % workers
		case left < 0:
			who, left = r.Intn(workers), r.Intn(40)
		}
		return who
	}
}

// Whoever is picked, whatever is drawn, and however few slots and levels there are.
func TestManyRuns(t *testing.T) {
	r := rand.New(rand.NewSource(276))
	for round := range 2000 {
		m := begun(t, someProblem(r), someConfig(r), someNumbers(r, 300))
		next := picker(r, round%4, m.c.Workers)
		for !m.done() {
			m.pick(next())
		}
		m.ended()
		for range 20 { // what is done stays so
			m.pick(next())
		}
		m.ended()
	}
}

// In turn, also if that begins in the midst of a run: within R picks of each the machine is done and all have halted.
func TestInTurn(t *testing.T) {
	r := rand.New(rand.NewSource(277))
	for round := range 1500 {
		m := begun(t, someProblem(r), someConfig(r), someNumbers(r, 300))
		next := picker(r, round%4, m.c.Workers)
		for range r.Intn(500) * (round % 2) {
			m.pick(next())
		}
		order := r.Perm(m.c.Workers)
		for turns := 0; !m.halted(); turns++ {
			for _, who := range order {
				m.pick(who)
			}
			if turns > m.most() {
				m.fail("not halted after R picks of each")
			}
		}
		m.ended()
	}
}

// One worker alone: within R picks the machine is done.
func TestAlone(t *testing.T) {
	r := rand.New(rand.NewSource(278))
	for range 1500 {
		m := begun(t, someProblem(r), someConfig(r), someNumbers(r, 300))
		who := r.Intn(m.c.Workers)
		for n := 0; !m.done(); n++ {
			m.pick(who)
			if n > m.most() || m.Workers()[who].Halted() {
				m.fail("not done after R picks, or halted")
			}
		}
		m.ended()
	}
}

// When each worker that has not halted was picked Bound times, the machine is done: one after another, in bursts, and with one that is picked last though it holds what is open.
func TestBoundIsEnough(t *testing.T) {
	r := rand.New(rand.NewSource(279))
	for round := range 400 {
		m := begun(t, someProblem(r), someConfig(r), someNumbers(r, 300))
		for range r.Intn(40) * (round % 3) {
			m.pick(0)
		}
		most := solver.Bound(m.i, m.c)
		for m.unfinished(most) {
			who := r.Intn(m.c.Workers)
			if round%2 == 0 {
				who = m.last(most)
			}
			for range 1 + r.Intn(3000) {
				if w := m.Workers()[who]; !w.Halted() && m.picks[who] < most {
					m.pick(who)
				}
			}
		}
		if !m.done() {
			m.fail("not done after Bound picks of each")
		}
		m.ended()
	}
}

func waits(w *work.Worker, picks, most int) bool { return !w.Halted() && picks < most }

// unfinished: is there one that has not halted and was not picked so often?
func (r *run) unfinished(most int) bool { return r.last(most) >= 0 }

// last is the last one of these; -1: there is none.
func (r *run) last(most int) int {
	last := -1
	for who, w := range r.Workers() {
		if waits(w, r.picks[who], most) {
			last = who
		}
	}
	return last
}

// With one worker, one slot and one level, all Kids of the empty prefix are searched in place.
func TestOneOfEach(t *testing.T) {
	m := begun(t, hard(), solver.Config{Workers: 1, Slots: 1, Levels: 1}, nil)
	frames := 0
	for !m.done() {
		m.pick(0)
		if len(m.Met()) > 0 && len(m.Heaps()[0].Lists()[0]) > 0 {
			m.fail("a Kid in the heap")
		}
		frames = max(frames, m.Workers()[0].Frames())
	}
	m.ended()
	if frames < 3 {
		t.Error(frames)
	}
}

// The same problem, Config, tape and picks yield the same, whatever is done to the problem's lists and the tape's since.
func TestSameAgain(t *testing.T) {
	r := rand.New(rand.NewSource(280))
	for round := range 60 {
		i, c, picks, draws := someProblem(r), someConfig(r), someNumbers(r, 200), someNumbers(r, 200)
		handed := copied(i)
		a, b := made(t, handed, c, picks, draws), made(t, i, c, picks, draws)
		if !sameInstance(handed, i) {
			t.Fatal("changed", handed, i)
		}
		spoiled(handed)
		next := picker(r, round%4, c.Workers)
		for b.Result().Status != solver.Done {
			who, times := next(), r.Intn(3)
			a.Pick(who)
			b.Pick(who)
			a.Run(times)
			b.Run(times)
			if !sameMachine(a, b) {
				t.Fatal(i, c, "not the same")
			}
		}
	}
}

func sameInstance(a, b api.Instance) bool {
	text := func(i api.Instance) []int {
		l := append([]int{i.Kind, i.N, i.Cap}, i.Weight...)
		l = append(l, i.Value...)
		for _, row := range i.Cost {
			l = append(l, row...)
		}
		return l
	}
	x, y := text(a), text(b)
	for k := range x {
		if len(x) != len(y) || x[k] != y[k] {
			return false
		}
	}
	return true
}

// The tape is the one that was handed in: its draws are used by the workers.
func TestTapeIsUsed(t *testing.T) {
	p := tape.New([]int{0, 0, 0}, []int{1, 2, 3})
	m, e := solver.New(hard(), three, p)
	if e != api.OK {
		t.Fatal(e)
	}
	m.All(math.MaxInt)
	sum := 0
	for _, n := range m.Picks() {
		sum += n
	}
	if picks, draws := p.Used(); picks != sum || draws < 4 {
		t.Error(picks, draws, sum)
	}
}

// At the limits: some thousand picks of problems that no other way solves.
func TestGreat(t *testing.T) {
	r := rand.New(rand.NewSource(281))
	for kind, n := range map[int]int{1: 64, 2: 24, 3: 24} {
		for _, c := range []solver.Config{{16, 4096, 6}, {16, 1, 1}, {2, 50, 3}} {
			m := begun(t, drawn(r, kind, n, api.MaxEntry), c, someNumbers(r, 2000))
			for range 3000 {
				m.pick(r.Intn(c.Workers))
			}
		}
	}
}
