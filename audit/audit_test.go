package audit_test

import (
	"math/rand"
	"slices"
	"testing"

	"kurgan/api"
	"kurgan/audit"
	"kurgan/gen"
	"kurgan/kernel"
	"kurgan/solver"
	"kurgan/tape"
)

// drawn is a problem of a kind with numbers below top.
func drawn(r *rand.Rand, kind, n, top int) api.Instance {
	i, _ := gen.Make(kind, n, top-1, r.Uint64())
	if kind == api.Knapsack {
		i.Cap = r.Intn(min(n*top/2+1, api.MaxEntry))
	}
	return i
}

func made(t *testing.T, i api.Instance, c solver.Config, draws []int) *solver.Machine {
	t.Helper()
	m, e := solver.New(i, c, tape.New(nil, draws))
	if e != api.OK {
		t.Fatal(i, c, e)
	}
	return m
}

// hard is a problem with a search of some hundred records.
func hard() api.Instance {
	i, _ := gen.Make(api.Tour, 9, 999, 99)
	return i
}

// whereabouts of each slot, found by looking for it everywhere.
func whereabouts(m *solver.Machine) [][]audit.Place {
	var all [][]audit.Place
	for slot := range m.Pool().Slots() {
		var l []audit.Place
		if slices.Contains(m.Pool().Shared(), slot) {
			l = append(l, audit.Place{Kind: audit.Free, Who: -1})
		}
		for who, w := range m.Workers() {
			if slices.Contains(m.Pool().Own(who), slot) {
				l = append(l, audit.Place{Kind: audit.Free, Who: who})
			}
			if slices.Contains(slices.Concat(m.Heaps()[who].Lists()...), slot) {
				l = append(l, audit.Place{Kind: audit.Queued, Who: who})
			}
			if slices.Contains(w.Holds(), slot) {
				l = append(l, audit.Place{Kind: audit.Held, Who: who})
			}
		}
		all = append(all, l)
	}
	return all
}

// hold holds what is told of a machine, and answers it.
func hold(t *testing.T, m *solver.Machine, i api.Instance) ([]audit.Place, audit.Sums) {
	t.Helper()
	places, e := audit.Slots(m)
	if e != api.OK || len(places) != m.Pool().Slots() {
		t.Fatal(i, places, e)
	}
	want := audit.Sums{Open: m.Open()}
	for slot, l := range whereabouts(m) {
		if len(l) != 1 || l[0] != places[slot] {
			t.Fatal(i, slot, places, l)
		}
		switch places[slot].Kind {
		case audit.Free:
			want.Free++
		case audit.Queued:
			want.Queued++
		default:
			want.Held++
		}
	}
	k, _ := kernel.Of(i)
	for _, w := range m.Workers() {
		want.Frames += w.Frames()
		if w.Frames() > k.Depth()+1 {
			t.Fatal(i, "frames", w.Frames())
		}
	}
	got, e := audit.Count(m)
	if e != api.OK || got != want || got.Free+got.Queued+got.Held != len(places) || got.Queued > got.Open || got.Open == 0 && got.Free < len(places) || got.Frames > len(m.Workers())*(k.Depth()+1) {
		t.Fatal(i, got, e, want)
	}
	return places, got
}

func TestNil(t *testing.T) {
	if l, e := audit.Slots(nil); len(l) != 0 || e != api.ErrArg {
		t.Error(l, e)
	}
	if s, e := audit.Count(nil); s != (audit.Sums{}) || e != api.ErrArg {
		t.Error(s, e)
	}
}

func TestZero(t *testing.T) {
	if l, _ := audit.Slots(&solver.Machine{}); len(l) != 0 {
		t.Error(l)
	}
	if s, _ := audit.Count(&solver.Machine{}); s != (audit.Sums{}) {
		t.Error(s)
	}
}

func TestNewMachine(t *testing.T) {
	for _, c := range []solver.Config{{Workers: 1, Slots: 1, Levels: 1}, {Workers: 3, Slots: 5, Levels: 2}, {Workers: 16, Slots: 300, Levels: 6}} {
		places, sums := hold(t, made(t, hard(), c, nil), hard())
		queued := 0
		for _, p := range places {
			if p == (audit.Place{Kind: audit.Queued}) {
				queued++
			} else if p != (audit.Place{Kind: audit.Free, Who: -1}) {
				t.Error(c, p)
			}
		}
		if queued != 1 || sums != (audit.Sums{Free: c.Slots - 1, Queued: 1, Open: 1}) {
			t.Error(c, queued, sums)
		}
	}
}

// At many moments of many runs.
func TestManyRuns(t *testing.T) {
	r := rand.New(rand.NewSource(282))
	seen := map[audit.Place]int{}
	frames := 0
	for round := range 200 {
		kind := 1 + r.Intn(3)
		i := drawn(r, kind, 1+r.Intn([]int{0, 14, 8, 8}[kind]), []int{2, 9, 1000}[r.Intn(3)])
		if round%8 == 0 {
			i = hard()
		}
		c := solver.Config{Workers: 1 + r.Intn(5), Slots: []int{1, 2, 3, 5, 9, 40}[r.Intn(6)], Levels: []int{1, 2, 3, 6}[r.Intn(4)]}
		m := made(t, i, c, []int{r.Int(), r.Int(), -r.Int(), r.Int(), r.Int(), r.Int()})
		for m.Result().Status != solver.Done {
			m.Pick(r.Intn(c.Workers))
			places, sums := hold(t, m, i)
			for _, p := range places {
				seen[p]++
			}
			frames = max(frames, sums.Frames)
		}
		if _, sums := hold(t, m, i); sums != (audit.Sums{Free: c.Slots}) {
			t.Fatal(i, sums)
		}
	}
	for _, kind := range []int{audit.Free, audit.Queued, audit.Held} {
		for who := range 5 {
			if seen[audit.Place{Kind: kind, Who: who}] == 0 {
				t.Error("never seen:", kind, who)
			}
		}
	}
	if frames < 8 {
		t.Error(frames)
	}
}

func TestResultsAreNew(t *testing.T) {
	m := made(t, hard(), solver.Config{Workers: 2, Slots: 9, Levels: 2}, nil)
	for range 300 {
		m.Run(1)
		places, _ := hold(t, m, hard())
		clear(places)
		_ = append(places[:0], audit.Place{Kind: 9})
		hold(t, m, hard())
	}
}

type act interface{ Step() bool }

func end(a act) {
	for !a.Step() {
	}
}

func wrong(t *testing.T, name string, m *solver.Machine) {
	t.Helper()
	if l, e := audit.Slots(m); len(l) != 0 || e != api.ErrForm {
		t.Error(name, l, e)
	}
	if s, e := audit.Count(m); s != (audit.Sums{}) || e != api.ErrForm {
		t.Error(name, s, e)
	}
}

// A slot that somebody outside has is at none of the places.
func TestNowhere(t *testing.T) {
	for _, slots := range []int{1, 2, 5} {
		m := made(t, hard(), solver.Config{Workers: 2, Slots: slots, Levels: 2}, nil)
		pop := m.Heaps()[0].Pop()
		end(pop)
		wrong(t, "popped", m)
		end(m.Heaps()[1].Push(pop.Slot(), nil))
		places, _ := hold(t, m, hard())
		if places[pop.Slot()] != (audit.Place{Kind: audit.Queued, Who: 1}) {
			t.Error("put into another heap", places)
		}
		steal := m.Heaps()[1].Steal(1)
		end(steal)
		wrong(t, "stolen", m)
		end(m.Pool().Give(1, steal.Slot()))
		places, _ = audit.Slots(m)
		if places[steal.Slot()] != (audit.Place{Kind: audit.Free, Who: 1}) {
			t.Error("given back", places)
		}
		take := m.Pool().Take(1)
		end(take)
		wrong(t, "taken", m)
	}
}

// In the midst of an act from outside, too: what a Pop has removed for a while is nowhere.
func TestAmidAnAct(t *testing.T) {
	missing := 0
	for queued := 1; queued < 20; queued++ {
		m := made(t, hard(), solver.Config{Workers: 1, Slots: 30, Levels: 3}, []int{1, 2, 3, 4, 5, 6, 7, 8})
		for m.Open() > 0 && len(slices.Concat(m.Heaps()[0].Lists()...)) < queued {
			m.Run(1)
		}
		pop := m.Heaps()[0].Pop()
		for over := false; !over; {
			over = pop.Step()
			_, e := audit.Slots(m)
			if (e == api.OK) != (len(pop.Hand()) == 0) || e != api.OK && e != api.ErrForm {
				t.Fatal(pop.Hand(), e)
			}
			missing = max(missing, len(pop.Hand()))
		}
	}
	if missing < 2 {
		t.Error("never several in hand")
	}
}

// A slot that is at several places.
func TestSeveral(t *testing.T) {
	for _, slots := range []int{1, 2, 5} {
		begin := func() (*solver.Machine, int) {
			m := made(t, hard(), solver.Config{Workers: 3, Slots: slots, Levels: 2}, nil)
			return m, slices.Concat(m.Heaps()[0].Lists()...)[0]
		}
		m, root := begin()
		end(m.Heaps()[2].Push(root, nil))
		wrong(t, "in two heaps", m)

		m, root = begin()
		end(m.Pool().Give(0, root))
		wrong(t, "queued and kept", m)

		m, root = begin()
		for who := range 3 { // two slots that a worker keeps, then the shared stack
			other := m.Pool().Take(who)
			end(other)
			end(m.Pool().Give(0, other.Slot()))
		}
		end(m.Pool().Give(0, root))
		wrong(t, "queued and free", m)

		m, root = begin()
		for len(m.Workers()[0].Holds()) == 0 {
			m.Pick(0)
		}
		hold(t, m, hard())
		end(m.Heaps()[1].Push(root, nil))
		wrong(t, "held and queued", m)
		for len(m.Workers()[1].Holds()) == 0 {
			m.Pick(1)
		}
		wrong(t, "held by two", m)

		m, root = begin()
		for len(m.Workers()[0].Holds()) == 0 {
			m.Pick(0)
		}
		end(m.Pool().Give(2, root))
		wrong(t, "held and kept", m)

		m, _ = begin()
		if shared := m.Pool().Shared(); len(shared) > 0 {
			end(m.Heaps()[1].Push(shared[len(shared)-1], nil))
			wrong(t, "free and queued", m)
		}
	}
}

// Nothing that was done from outside keeps a call from its end.
func TestGoesOn(t *testing.T) {
	r := rand.New(rand.NewSource(283))
	for range 100 {
		c := solver.Config{Workers: 3, Slots: 6, Levels: 2}
		m := made(t, hard(), c, nil)
		for range 40 {
			m.Run(r.Intn(60))
			slot, who := r.Intn(6), r.Intn(3)
			switch r.Intn(4) {
			case 0:
				end(m.Pool().Give(who, slot))
			case 1:
				end(m.Pool().Take(who))
			case 2:
				end(m.Heaps()[who].Push(slot, nil))
			default:
				end(m.Heaps()[who].Steal(1 + r.Intn(3)))
			}
			if l, e := audit.Slots(m); e != api.ErrForm && (e != api.OK || len(l) != 6) {
				t.Fatal(l, e)
			}
		}
		m.All(2000)
	}
}
