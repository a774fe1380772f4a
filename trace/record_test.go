package trace_test

import (
	"math"
	"math/rand"
	"slices"
	"testing"

	"kurgan/api"
	"kurgan/cell"
	"kurgan/gen"
	"kurgan/solver"
	"kurgan/trace"
)

// one is a machine with so many workers.
func one(workers int) machine {
	i, _ := gen.Make(api.Tour, 6, 99, 5)
	return machine{i, solver.Config{Workers: workers, Slots: 9, Levels: 2}, nil}
}

func TestNilMachine(t *testing.T) {
	for _, m := range []*solver.Machine{nil, {}} {
		for _, picks := range [][]int{nil, {}, {0}, {1, -1, 7}} {
			if l := trace.Record(m, picks); len(l) != 0 {
				t.Error(l)
			}
		}
		for _, l := range [][]trace.Entry{nil, {}, {{}}, {{Worker: -1}}, {{Worker: 1}, {}}} {
			if n, e := trace.Replay(m, l); n != 0 || e != api.ErrArg {
				t.Error(l, n, e)
			}
		}
	}
}

func TestNoPicks(t *testing.T) {
	for _, picks := range [][]int{nil, {}} {
		a, b := one(3).new(), one(3).new()
		if l := trace.Record(a, picks); len(l) != 0 || !sameMachine(a, b) {
			t.Error(l)
		}
		if n, e := trace.Replay(a, nil); n != 0 || e != api.OK || !sameMachine(a, b) {
			t.Error(n, e)
		}
	}
}

// A number of any size names a worker.
func TestPicksOfAnySize(t *testing.T) {
	for workers := 1; workers <= 16; workers++ {
		m := one(workers).new()
		for _, n := range []int{0, 1, workers - 1, workers, workers + 1, 1000003, math.MaxInt, math.MaxInt - 1, -1, -2, -workers, -workers - 1, math.MinInt, math.MinInt + 1, math.MinInt + workers} {
			before := m.Picks()
			l := trace.Record(m, []int{n})
			before[plainWorker(n, workers)]++
			if len(l) != 1 || l[0].Worker != plainWorker(n, workers) || !slices.Equal(m.Picks(), before) {
				t.Error(workers, n, l, m.Picks())
			}
		}
	}
	if l := trace.Record(one(3).new(), []int{-1, -2, -3, 4}); l[0].Worker != 0 || l[1].Worker != 2 || l[2].Worker != 1 || l[3].Worker != 1 { // 2^64 - 1 is a multiple of 3
		t.Error(l)
	}
}

// explain makes the steps of entries to the cells that a memory had, which must come out as those that it has.
func explain(t *testing.T, l []trace.Entry, cells, after []int) (steps int) {
	t.Helper()
	for at, entry := range l {
		op := entry.Op
		if op == (cell.Op{}) {
			continue
		}
		steps++
		fits := op.Kind == cell.Read && op.Old == op.New && op.Done || op.Kind == cell.Swap && (op.Done || op.Old == op.New) || (op.Kind == cell.Write || op.Kind == cell.Add) && op.Done
		if !fits || op.Cell < 0 || op.Cell >= len(cells) || cells[op.Cell] != op.Old {
			t.Fatal(at, entry)
		}
		cells[op.Cell] = op.New
	}
	if !slices.Equal(cells, after) {
		t.Fatal("other cells behind the last entry")
	}
	return steps
}

// Each entry is the worker that was picked and the step that it made, before and behind the end of the search.
func TestRecord(t *testing.T) {
	r := rand.New(rand.NewSource(511))
	quiet, swapped := 0, 0
	for range 300 {
		made := someMachine(r)
		a, b := made.new(), made.new()
		for range 4 {
			picks := somePicks(r, r.Intn(2000))
			cells, steps := a.Memory().All(), a.Memory().Steps()
			got, want := trace.Record(a, picks), plainRecord(b, picks)
			if !slices.Equal(got, want) || !sameMachine(a, b) {
				t.Fatal(made, got, want)
			}
			if explain(t, got, cells, a.Memory().All()) != a.Memory().Steps()-steps {
				t.Fatal(made, "a step is missing")
			}
			s := trace.Count(got)
			quiet, swapped = quiet+s.Quiet, swapped+s.Swaps
		}
	}
	if quiet < 100 || swapped < 100 {
		t.Error(quiet, swapped)
	}
}

// Behind the end nobody makes a step.
func TestRecordBehindTheEnd(t *testing.T) {
	m := one(2).new()
	first := trace.Record(m, slices.Repeat([]int{0, 1}, 100000))
	if m.Result().Status != solver.Done || first[0].Op == (cell.Op{}) {
		t.Fatal(m.Result(), first[0])
	}
	for _, w := range m.Workers() {
		if !w.Halted() {
			t.Fatal("not halted")
		}
	}
	steps := m.Memory().Steps()
	l := trace.Record(m, []int{0, 1, 0})
	if !slices.Equal(l, []trace.Entry{{Worker: 0}, {Worker: 1}, {Worker: 0}}) || m.Memory().Steps() != steps {
		t.Error(l)
	}
}

// A step that somebody else made is nobody's.
func TestOthersSteps(t *testing.T) {
	m := one(2).new()
	trace.Record(m, slices.Repeat([]int{0, 1}, 100000))
	m.Memory().Get(0)
	if l := trace.Record(m, []int{1}); l[0] != (trace.Entry{Worker: 1}) {
		t.Error(l)
	}
}

// What was recorded with one machine can be replayed with another one of the same.
func TestReplay(t *testing.T) {
	r := rand.New(rand.NewSource(512))
	for range 300 {
		made := someMachine(r)
		a, b := made.new(), made.new()
		for range 3 {
			l := trace.Record(a, somePicks(r, r.Intn(2000)))
			kept := slices.Clone(l)
			if n, e := trace.Replay(b, l); n != len(l) || e != api.OK || !sameMachine(a, b) || !slices.Equal(l, kept) {
				t.Fatal(made, n, len(l), e)
			}
		}
		// from a text, too
		l := trace.Record(a, somePicks(r, r.Intn(500)))
		text, e := trace.Write(l)
		read, _, f := trace.Read(text)
		if e != api.OK || f != api.OK || !slices.Equal(read, l) {
			t.Fatal(made, e, f)
		}
		if n, e := trace.Replay(b, read); n != len(l) || e != api.OK || !sameMachine(a, b) {
			t.Fatal(made, n, e)
		}
	}
}

// changes of an entry, each of them another entry.
func changes(entry trace.Entry) []trace.Entry {
	var l []trace.Entry
	change := func(by func(e *trace.Entry)) {
		other := entry
		if by(&other); other != entry {
			l = append(l, other)
		}
	}
	change(func(e *trace.Entry) { e.Op.Kind++ })
	change(func(e *trace.Entry) { e.Op.Kind-- })
	change(func(e *trace.Entry) { e.Op.Kind = 99 })
	change(func(e *trace.Entry) { e.Op.Cell++ })
	change(func(e *trace.Entry) { e.Op.Cell-- })
	change(func(e *trace.Entry) { e.Op.Old++ })
	change(func(e *trace.Entry) { e.Op.New = math.MinInt })
	change(func(e *trace.Entry) { e.Op.Done = !e.Op.Done })
	change(func(e *trace.Entry) { e.Op = cell.Op{} })
	change(func(e *trace.Entry) { e.Op = cell.Op{Done: true} })
	return l
}

// picked: how often each worker is picked by entries.
func picked(l []trace.Entry, workers int) []int {
	picks := make([]int, workers)
	for _, entry := range l {
		picks[entry.Worker]++
	}
	return picks
}

// An entry changed at each place: it is false there, and its worker is picked, and none after it.
func TestReplayOfChangedEntries(t *testing.T) {
	r := rand.New(rand.NewSource(513))
	for range 6 {
		made := someMachine(r)
		picks := somePicks(r, 60)
		l := trace.Record(made.new(), picks)
		for at, entry := range l {
			want := made.new()
			plainRecord(want, picks[:at+1])
			for _, other := range changes(entry) {
				changed := slices.Clone(l)
				changed[at] = other
				m := made.new()
				n, e := trace.Replay(m, changed)
				if n != at || e != api.ErrFalse || !sameMachine(m, want) || !slices.Equal(m.Picks(), picked(l[:at+1], made.c.Workers)) {
					t.Fatal(at, other, n, e)
				}
				if n, e := trace.Replay(made.new(), changed[:at+1]); n != at || e != api.ErrFalse {
					t.Fatal(at, other, n, e)
				}
			}
		}
	}
}

// Another worker at each place: it is picked, and what comes of it decides.
func TestReplayOfOtherWorkers(t *testing.T) {
	r := rand.New(rand.NewSource(514))
	met := map[api.Errno]int{}
	for range 40 {
		made := someMachine(r)
		l := trace.Record(made.new(), somePicks(r, 60))
		for at := range l {
			changed := slices.Clone(l)
			changed[at].Worker = r.Intn(made.c.Workers)
			want := made.new()
			stop, wanted := len(l), api.OK
			for k, entry := range changed {
				if plainRecord(want, []int{entry.Worker})[0] != entry {
					stop, wanted = k, api.ErrFalse
					break
				}
			}
			m := made.new()
			if n, e := trace.Replay(m, changed); n != stop || e != wanted || !sameMachine(m, want) {
				t.Fatal(at, n, e, stop, wanted)
			}
			met[wanted]++
		}
	}
	if met[api.OK] < 50 || met[api.ErrFalse] < 50 {
		t.Error(met)
	}
}

// A worker that there isn't, at each place: those ahead were picked, and none from there on.
func TestReplayOfNoWorkers(t *testing.T) {
	r := rand.New(rand.NewSource(515))
	for _, workers := range []int{1, 2, 16} {
		made := one(workers)
		picks := somePicks(r, 80)
		l := trace.Record(made.new(), picks)
		for at := range l {
			for _, worker := range []int{-1, workers, workers + 1, 16, math.MaxInt, math.MinInt, -workers, 1 << 32} {
				changed := slices.Clone(l)
				changed[at].Worker = worker
				m, want := made.new(), made.new()
				plainRecord(want, picks[:at])
				if n, e := trace.Replay(m, changed); n != at || e != api.ErrArg || !sameMachine(m, want) {
					t.Fatal(at, worker, n, e)
				}
			}
		}
		// the first entry that goes wrong tells, of whichever kind it is
		changed := slices.Clone(l)
		changed[5].Op.Old++
		changed[6].Worker = -1
		if n, e := trace.Replay(made.new(), changed); n != 5 || e != api.ErrFalse {
			t.Error(n, e)
		}
		changed[4].Worker = -1
		if n, e := trace.Replay(made.new(), changed); n != 4 || e != api.ErrArg {
			t.Error(n, e)
		}
	}
}

// A machine that isn't where the other one was.
func TestReplayOfOtherMachines(t *testing.T) {
	made := one(2)
	l := trace.Record(made.new(), []int{0, 0, 0, 1, 0, 1})
	m := made.new()
	m.Pick(0)
	if n, e := trace.Replay(m, l); e != api.ErrFalse || n == len(l) {
		t.Error(n, e)
	}
	if n, e := trace.Replay(one(1).new(), l); n != 3 || e != api.ErrArg {
		t.Error(n, e)
	}
}

// Record doesn't keep or change its picks, and what it returns is new.
func TestRecordsAreNew(t *testing.T) {
	picks := []int{0, -1, 5, 77}
	handed := picks[:3]
	m := one(3).new()
	first := trace.Record(m, handed)
	kept := slices.Clone(first)
	for at := range handed {
		handed[at] = 9
	}
	second := trace.Record(m, []int{0, 1, 2})
	for at := range second[:cap(second)] {
		second[:cap(second)][at] = trace.Entry{}
	}
	if !slices.Equal(first, kept) || picks[3] != 77 {
		t.Error(first, kept, picks)
	}
}
