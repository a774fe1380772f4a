package solver_test

import (
	"fmt"
	"math/rand"
	"slices"
	"testing"

	"kurgan/api"
	"kurgan/dive"
	"kurgan/exact"
	"kurgan/gen"
	"kurgan/greedy"
	"kurgan/inst"
	"kurgan/kernel"
	"kurgan/log"
	"kurgan/solver"
	"kurgan/tape"
	"kurgan/value"
	"kurgan/work"
)

func knapsack(room int, weight, worth []int) api.Instance {
	return api.Instance{Kind: 1, N: len(weight), Cap: room, Weight: weight, Value: worth}
}

func square(kind int, rows ...[]int) api.Instance {
	return api.Instance{Kind: kind, N: len(rows), Cost: rows}
}

// drawn is a problem of a kind with numbers below top.
func drawn(r *rand.Rand, kind, n, top int) api.Instance {
	i, _ := gen.Make(kind, n, top-1, r.Uint64())
	if kind == api.Knapsack {
		i.Cap = r.Intn(min(n*top/2+1, api.MaxEntry))
	}
	return i
}

// someProblem is seldom one whose first solution is known to be the best one at once.
func someProblem(r *rand.Rand) api.Instance {
	for {
		kind := 1 + r.Intn(3)
		i := drawn(r, kind, 1+r.Intn([]int{0, 14, 8, 8}[kind]), []int{2, 9, 1000, api.MaxEntry}[r.Intn(4)])
		k, _ := kernel.Of(i)
		least, _ := k.Bound(nil)
		if _, cost, _ := greedy.Start(i); cost > least || r.Intn(6) == 0 {
			return i
		}
	}
}

// hard is a problem whose first solution is not the best one, with a search of some hundred records.
func hard() api.Instance {
	i, _ := gen.Make(api.Tour, 9, 999, 99)
	return i
}

func someConfig(r *rand.Rand) solver.Config {
	return solver.Config{Workers: 1 + r.Intn([]int{2, 4, 16}[r.Intn(3)]), Slots: []int{1, 2, 3, 4, 7, 12, 40}[r.Intn(7)], Levels: []int{1, 1, 2, 3}[r.Intn(4)]}
}

func someNumbers(r *rand.Rand, most int) []int {
	var l []int
	for range r.Intn(most) {
		l = append(l, r.Int()-r.Int())
	}
	return l
}

func made(t *testing.T, i api.Instance, c solver.Config, picks, draws []int) *solver.Machine {
	t.Helper()
	m, e := solver.New(i, c, tape.New(picks, draws))
	if m == nil || e != api.OK {
		t.Fatal(i, c, e)
	}
	return m
}

// run is a machine that is held against the chapter's words.
type run struct {
	*solver.Machine
	t      *testing.T
	i      api.Instance
	c      solver.Config
	lowest int // of a best solution, found in another way; -1: there is no other way
	cost   int // that was told last
	picks  []int
	told   int // how often it was held
}

func begun(t *testing.T, i api.Instance, c solver.Config, draws []int) *run {
	t.Helper()
	r := &run{Machine: made(t, i, c, nil, draws), t: t, i: i, c: c, picks: make([]int, c.Workers)}
	_, lowest, e := exact.Best(i)
	if e != api.OK {
		lowest = -1
	}
	r.lowest = lowest
	r.cost = r.Result().Cost
	r.hold()
	return r
}

func (r *run) fail(what ...any) {
	r.t.Helper()
	r.t.Fatal(append(what, "of", r.i, r.c, "after", r.picks)...)
}

// pick picks a worker, and holds what is told then.
func (r *run) pick(who int) {
	r.t.Helper()
	if e := r.Pick(who); e != api.OK {
		r.fail("Pick", who, e)
	}
	r.picks[who]++
	r.hold()
}

// hold: what is told is a solution, with its cost and value; the cost never rises; done is told just if nothing is open, and then no solution is better.
func (r *run) hold() {
	r.t.Helper()
	got := r.Result()
	cost, e := value.Cost(r.i, got.X)
	worth, _ := value.Value(r.i, got.X)
	status := solver.Unfinished
	if r.Open() == 0 {
		status = solver.Done
	}
	right := e == api.OK && got.Cost == cost && got.Value == worth && got.Cost <= r.cost && got.Status == status && r.Open() >= 0
	if !right || status == solver.Done && r.lowest >= 0 && cost != r.lowest {
		r.fail("Result", got, "costs", cost, e, "open", r.Open(), "lowest", r.lowest)
	}
	if !slices.Equal(r.Picks(), r.picks) {
		r.fail("Picks", r.Picks())
	}
	r.cost = cost
	r.told++
	if r.told%16 == 0 {
		r.holdMet()
	}
}

// holdMet: what all workers met is told in order.
func (r *run) holdMet() {
	r.t.Helper()
	met := r.Met()
	if !slices.IsSortedFunc(met, func(a, b log.Record) int { return slices.Compare(a.Path, b.Path) }) || len(met) != all(r.Workers()) {
		r.fail("Met", met)
	}
	for k := 1; k < len(met); k++ {
		if slices.Equal(met[k].Path, met[k-1].Path) {
			r.fail("twice:", met[k])
		}
	}
}

func (r *run) done() bool { return r.Result().Status == solver.Done }

func (r *run) halted() bool {
	return !slices.ContainsFunc(r.Workers(), func(w *work.Worker) bool { return !w.Halted() })
}

// ended holds a machine that is done: what its workers met is in order, and a complete search.
func (r *run) ended() {
	r.t.Helper()
	r.holdMet()
	if !r.done() {
		r.fail("not done")
	}
	met := r.Met()
	k, _ := kernel.Of(r.i)
	kinds := map[string]int{}
	for _, record := range met {
		kinds[fmt.Sprint(record.Path)] = record.Kind
	}
	if searched := visit(k, nil, kinds); len(kinds) != len(met) || searched != len(met) {
		r.fail("no complete search:", met, searched)
	}
}

func all(workers []*work.Worker) int {
	n := 0
	for _, w := range workers {
		n += w.Log().Len()
	}
	return n
}

// visit counts the records of a prefix and all below it; where one is missing, none.
func visit(k *kernel.Kernel, p []int, kinds map[string]int) int {
	kind, there := kinds[fmt.Sprint(p)]
	if !there {
		return 0
	}
	n := 1
	if kind == dive.Branch {
		kids, _ := k.Kids(p)
		for _, kid := range kids {
			n += visit(k, append(slices.Clone(p), kid), kinds)
		}
	}
	return n
}

// most is R of layer 26.
func (r *run) most() int {
	return 400*(kernel.Count(r.i)+2) + 100*(r.c.Workers*(1<<r.c.Levels-1)+10)
}

func sameResult(a, b solver.Result) bool {
	return a.Status == b.Status && a.Cost == b.Cost && a.Value == b.Value && slices.Equal(a.X, b.X)
}

func sameRecord(a, b log.Record) bool { return a.Kind == b.Kind && slices.Equal(a.Path, b.Path) }

// sameMachine: do two machines tell the same?
func sameMachine(a, b *solver.Machine) bool {
	if !sameResult(a.Result(), b.Result()) || !slices.Equal(a.Picks(), b.Picks()) || a.Open() != b.Open() {
		return false
	}
	if !slices.EqualFunc(a.Met(), b.Met(), sameRecord) || !slices.Equal(a.Memory().All(), b.Memory().All()) || a.Memory().Steps() != b.Memory().Steps() {
		return false
	}
	for k, w := range a.Workers() {
		other := b.Workers()[k]
		if w.Halted() != other.Halted() || w.Frames() != other.Frames() || !slices.Equal(w.Holds(), other.Holds()) {
			return false
		}
	}
	return true
}

func spoiled(i api.Instance) {
	for _, l := range append(slices.Clone(i.Cost), i.Weight, i.Value) {
		for k := range l {
			l[k] = -7
		}
	}
	for row := range i.Cost {
		i.Cost[row] = nil
	}
}

func copied(i api.Instance) api.Instance { return inst.Copy(i) }
