package pool_test

import (
	"math"
	"slices"
	"testing"

	"kurgan/api"
	"kurgan/cell"
	"kurgan/pool"
)

func memory(t *testing.T, n int) *cell.Mem {
	t.Helper()
	m, e := cell.New(n)
	if e != api.OK {
		t.Fatalf("a memory of %d cells: %d", n, e)
	}
	return m
}

// made is a pool in a memory of its own.
func made(t *testing.T, slots, workers int) (*pool.Pool, *cell.Mem) {
	t.Helper()
	m := memory(t, slots+1)
	p, e := pool.New(m, 0, slots, workers)
	if e != api.OK || p == nil {
		t.Fatalf("New of %d slots and %d workers: %v, %d", slots, workers, p, e)
	}
	return p, m
}

// run steps an act that is alone until it is over, within four Steps.
func run(t *testing.T, a *pool.Act) int {
	t.Helper()
	if a == nil {
		t.Fatal("no act")
	}
	for range 4 {
		if a.Step() {
			return a.Slot()
		}
	}
	t.Fatal("not over within four Steps")
	return -1
}

func sorted(l []int) []int {
	l = slices.Clone(l)
	slices.Sort(l)
	return l
}

// upTo: the numbers from 0 on.
func upTo(n int) []int {
	var l []int
	for k := range n {
		l = append(l, k)
	}
	return l
}

func TestCells(t *testing.T) {
	for slots, want := range map[int]int{
		math.MinInt: 0, -1: 0, 0: 0, 1: 2, 2: 3, 64: 65, 4095: 4096, 4096: 4097, 4097: 0, 1 << 32: 0, math.MaxInt: 0,
	} {
		if n := pool.Cells(slots); n != want {
			t.Errorf("Cells(%d) = %d, not %d", slots, n, want)
		}
	}
}

func TestNew(t *testing.T) {
	for _, slots := range []int{1, 2, 7, 4095, 4096} {
		for _, workers := range []int{1, 2, 15, 16} {
			p, _ := made(t, slots, workers)
			if p.Slots() != slots || !slices.Equal(sorted(p.Shared()), upTo(slots)) {
				t.Fatal(slots, workers, p.Slots(), p.Shared())
			}
			for worker := -1; worker <= workers; worker++ {
				there := worker >= 0 && worker < workers
				if len(p.Own(worker)) != 0 || (p.Take(worker) != nil) != there || (p.Give(worker, 0) != nil) != there {
					t.Fatal(slots, workers, worker, p.Own(worker))
				}
			}
			if p.Node(slots-1).Path != nil || p.Node(slots-1).Bound != 0 || p.Bound(slots-1) != 0 {
				t.Fatal(p.Node(slots - 1))
			}
		}
	}
}

// wrong: New answers ErrArg and has made no step.
func wrong(t *testing.T, m *cell.Mem, base, slots, workers int) {
	t.Helper()
	before := m.Steps()
	if p, e := pool.New(m, base, slots, workers); p != nil || e != api.ErrArg || m.Steps() != before {
		t.Errorf("New(%d cells, %d, %d, %d) = %v, %d", m.Size(), base, slots, workers, p, e)
	}
}

func TestNewOfWrongNumbers(t *testing.T) {
	m := memory(t, 5000)
	for _, slots := range []int{math.MinInt, -1, 0, 4097, math.MaxInt} {
		wrong(t, m, 0, slots, 1)
	}
	for _, workers := range []int{math.MinInt, -1, 0, 17, math.MaxInt} {
		wrong(t, m, 0, 3, workers)
	}
	for _, base := range []int{math.MinInt, -4097, -1, 5000 - 3, 4999, 5000, 5001, math.MaxInt - 3, math.MaxInt} {
		wrong(t, m, base, 3, 1)
	}
	wrong(t, memory(t, 0), 0, 1, 1)
	wrong(t, memory(t, 1), 0, 1, 1)
	wrong(t, memory(t, 1), -1, 1, 1)
	wrong(t, memory(t, 4096), 0, 4096, 16)
	wrong(t, nil, 0, 1, 1)
	wrong(t, nil, -2, 0, 0)
	if !slices.Equal(m.All(), make([]int, 5000)) {
		t.Error("a call that answered an error changed the memory")
	}
}

// A pool makes steps of its own cells alone, whatever they had before, and wherever they begin.
func TestCellsOfAPool(t *testing.T) {
	const slots, others = 3, 5
	for _, junk := range []int{0, -1, 7, math.MaxInt, math.MinInt} {
		for base := range others + 1 {
			m := memory(t, others+slots+1)
			for i := range m.Size() {
				m.Set(i, junk)
			}
			p, e := pool.New(m, base, slots, 2) // of base 5 the last cell is the memory's last one
			if e != api.OK {
				t.Fatal(base, e)
			}
			for round := range 6 {
				var taken []int
				for k := range 2 * slots {
					if slot := run(t, p.Take(k%2)); slot >= 0 {
						taken = append(taken, slot)
					}
				}
				if !slices.Equal(sorted(taken), upTo(slots)) {
					t.Fatal(base, junk, taken)
				}
				for _, slot := range taken { // of which one comes back to all
					run(t, p.Give(round%2, slot))
				}
			}
			for i, n := range m.All() {
				if (i < base || i > base+slots) && n != junk {
					t.Fatalf("base %d: cell %d was changed from %d to %d", base, i, junk, n)
				}
			}
		}
	}
}

// The document's example, and that the same worker's last Take finds nothing again.
func TestOneSlot(t *testing.T) {
	p, _ := made(t, 1, 1)
	for range 5 {
		if a, b := run(t, p.Take(0)), run(t, p.Take(0)); a != 0 || b != -1 {
			t.Fatal(a, b)
		}
		if slot := run(t, p.Give(0, 0)); slot != 0 {
			t.Fatal(slot)
		}
	}
}

// All slots are taken, each once, and then none is there; the one that Shared tells first is taken next.
func TestTakeAll(t *testing.T) {
	for _, slots := range []int{1, 2, 3, 50, 4096} {
		p, _ := made(t, slots, 2)
		var taken []int
		for k := range slots {
			next := -1
			if k < 10 || k > slots-10 {
				next = p.Shared()[0]
			}
			slot := run(t, p.Take(k%2))
			if next >= 0 && slot != next {
				t.Fatalf("slot %d was taken, not %d", slot, next)
			}
			taken = append(taken, slot)
		}
		if !slices.Equal(sorted(taken), upTo(slots)) || len(p.Shared()) != 0 {
			t.Fatal(taken, p.Shared())
		}
		if a, b := run(t, p.Take(0)), run(t, p.Take(1)); a != -1 || b != -1 {
			t.Fatal(a, b)
		}
	}
}

// A worker keeps two slots that it gave back, and takes them ahead of those that are shared, without a step of the memory.
func TestOwnSlots(t *testing.T) {
	p, m := made(t, 6, 3)
	for range 5 {
		run(t, p.Take(0))
	}
	left := p.Shared()
	for k, slot := range []int{0, 1, 2, 3, 4} {
		if left[0] <= slot { // the five that were taken
			slot++
		}
		before, shared := m.Steps(), p.Shared()
		if got := run(t, p.Give(1, slot)); got != slot { // by another worker than the one that took it
			t.Fatal(slot, got)
		}
		own := p.Own(1)
		if k < 2 && (len(own) != k+1 || !slices.Contains(own, slot) || m.Steps() != before || !slices.Equal(p.Shared(), shared)) {
			t.Fatal(k, slot, own, p.Shared())
		}
		if k >= 2 && (len(own) != 2 || slices.Contains(own, slot) || !slices.Equal(p.Shared(), slices.Insert(shared, 0, slot))) {
			t.Fatal(k, slot, own, p.Shared())
		}
		if len(p.Own(0)) != 0 || len(p.Own(2)) != 0 {
			t.Fatal("others keep it:", p.Own(0), p.Own(2))
		}
	}
	own, shared, before := p.Own(1), p.Shared(), m.Steps()
	a, b := run(t, p.Take(1)), run(t, p.Take(1))
	if !slices.Equal([]int{a, b}, own) || m.Steps() != before || !slices.Equal(p.Shared(), shared) || len(p.Own(1)) != 0 {
		t.Fatal(a, b, own, p.Shared())
	}
	if slot := run(t, p.Take(1)); slot != shared[0] || m.Steps() == before {
		t.Fatal(slot, shared)
	}
}

// What a worker keeps no other one takes, even if the shared stack is empty.
func TestOthersFindNothing(t *testing.T) {
	p, _ := made(t, 2, 2)
	run(t, p.Take(0))
	run(t, p.Take(0))
	run(t, p.Give(0, 0))
	run(t, p.Give(0, 1))
	if slot := run(t, p.Take(1)); slot != -1 || len(p.Own(0)) != 2 {
		t.Fatal(slot, p.Own(0))
	}
}

// An act tells its slot when it is over, and what is stepped after that changes nothing.
func TestActs(t *testing.T) {
	p, m := made(t, 4, 1)
	for range 4 {
		run(t, p.Take(0))
	}
	run(t, p.Give(0, 0))
	run(t, p.Give(0, 1))
	acts := []func() *pool.Act{
		func() *pool.Act { return p.Give(0, 2) }, // to all
		func() *pool.Act { return p.Take(0) },    // an own one
		func() *pool.Act { return p.Take(0) },
		func() *pool.Act { return p.Take(0) },    // a shared one
		func() *pool.Act { return p.Take(0) },    // none
		func() *pool.Act { return p.Give(0, 3) }, // to keep
	}
	for k, begin := range acts {
		before, own, shared := m.Steps(), p.Own(0), p.Shared()
		a := begin()
		if a.Over() || a.Slot() != -1 || m.Steps() != before || !slices.Equal(p.Own(0), own) || !slices.Equal(p.Shared(), shared) {
			t.Fatal(k, "something was done ahead of the first Step")
		}
		for n := range 4 {
			before = m.Steps()
			done := a.Step()
			if done != a.Over() || !done && a.Slot() != -1 || m.Steps() > before+1 {
				t.Fatal(k, n, done, a.Over(), a.Slot(), m.Steps()-before)
			}
			if done {
				break
			}
		}
		want := [][]int{{2}, {0, 1}, {0, 1}, {2}, {-1}, {3}}[k]
		if !a.Over() || !slices.Contains(want, a.Slot()) {
			t.Fatal(k, a.Over(), a.Slot(), want)
		}
		slot, cells := a.Slot(), m.All()
		before, own, shared = m.Steps(), p.Own(0), p.Shared()
		for range 3 {
			if !a.Step() || !a.Over() || a.Slot() != slot {
				t.Fatal(k, "behind the end", a.Slot())
			}
		}
		if m.Steps() != before || !slices.Equal(m.All(), cells) || !slices.Equal(p.Own(0), own) || !slices.Equal(p.Shared(), shared) {
			t.Fatal(k, "something was done behind the end")
		}
	}
}

func TestNodes(t *testing.T) {
	p, m := made(t, 3, 1)
	before := m.Steps()
	path := []int{4, 5, 6, 7}
	n := pool.Node{Path: path[:3], Bound: 9}
	p.Keep(1, n)
	p.Keep(2, pool.Node{Path: path, Bound: math.MinInt})
	for k := range path { // what was handed in is not kept
		path[k] = 0
	}
	for range 2 {
		got := p.Node(1)
		if !slices.Equal(got.Path, []int{4, 5, 6}) || got.Bound != 9 || p.Bound(1) != 9 {
			t.Fatal(got, p.Bound(1))
		}
		for k := range got.Path[:cap(got.Path)] { // nor is what was returned
			got.Path[:cap(got.Path)][k] = -1
		}
	}
	if got := p.Node(2); !slices.Equal(got.Path, []int{4, 5, 6, 7}) || got.Bound != math.MinInt || p.Bound(2) != math.MinInt {
		t.Error(got)
	}
	if got := p.Node(0); len(got.Path) != 0 || got.Bound != 0 || p.Bound(0) != 0 {
		t.Error(got)
	}
	p.Keep(1, pool.Node{})
	if got := p.Node(1); len(got.Path) != 0 || got.Bound != 0 || p.Bound(1) != 0 {
		t.Error(got)
	}
	spare := make([]int, 2, 4)
	p.Keep(0, pool.Node{Path: spare, Bound: 1})
	got := p.Node(0)
	_ = append(got.Path, 8)
	if !slices.Equal(spare[:4], make([]int, 4)) {
		t.Error("the room behind a list was changed:", spare[:4])
	}
	if m.Steps() != before {
		t.Error("steps were made:", m.Steps()-before)
	}
}

func TestNodesOfSlotsThatAreNotThere(t *testing.T) {
	p, m := made(t, 3, 1)
	for slot := range 3 {
		p.Keep(slot, pool.Node{Path: []int{slot}, Bound: slot + 1})
	}
	cells := m.All()
	for _, slot := range []int{math.MinInt, -1, 3, 4, 4096, math.MaxInt} {
		p.Keep(slot, pool.Node{Path: []int{7}, Bound: 7})
		if got := p.Node(slot); len(got.Path) != 0 || got.Bound != 0 || p.Bound(slot) != 0 {
			t.Error(slot, got, p.Bound(slot))
		}
	}
	for slot := range 3 {
		if got := p.Node(slot); !slices.Equal(got.Path, []int{slot}) || got.Bound != slot+1 {
			t.Error(slot, got)
		}
	}
	if !slices.Equal(m.All(), cells) {
		t.Error("the memory was changed")
	}
}

// What a slot has stays, whoever takes it or gives it back.
func TestNodesStay(t *testing.T) {
	p, _ := made(t, 4, 2)
	for slot := range 4 {
		p.Keep(slot, pool.Node{Path: []int{slot, 9}, Bound: 10 * slot})
	}
	for k := range 40 {
		var taken []int
		for len(p.Shared()) > 0 || len(p.Own(k%2)) > 0 {
			taken = append(taken, run(t, p.Take(k%2)))
		}
		for _, slot := range taken {
			run(t, p.Give((k+1)%2, slot))
		}
		for slot := range 4 {
			if n := p.Node(slot); !slices.Equal(n.Path, []int{slot, 9}) || n.Bound != 10*slot {
				t.Fatal(k, slot, n)
			}
		}
	}
}

func TestWorkersAndSlotsThatAreNotThere(t *testing.T) {
	p, m := made(t, 3, 2)
	before := m.Steps()
	for _, worker := range []int{math.MinInt, -1, 0, 1, 2, 3, 16, math.MaxInt} {
		there := worker == 0 || worker == 1
		if a := p.Take(worker); (a != nil) != there {
			t.Error("Take", worker, a)
		}
		for _, slot := range []int{math.MinInt, -1, 0, 1, 2, 3, 4, 4096, math.MaxInt} {
			if a := p.Give(worker, slot); (a != nil) != (there && slot >= 0 && slot < 3) {
				t.Error("Give", worker, slot, a)
			}
		}
		if l := p.Own(worker); len(l) != 0 {
			t.Error("Own", worker, l)
		}
	}
	if m.Steps() != before || len(p.Shared()) != 3 {
		t.Error("something was done")
	}
}

func TestListsOfTheirOwn(t *testing.T) {
	p, m := made(t, 5, 1)
	for range 5 {
		run(t, p.Take(0))
	}
	for slot := range 4 {
		run(t, p.Give(0, slot))
	}
	before := m.Steps()
	own, shared := p.Own(0), p.Shared()
	for _, l := range [][]int{p.Own(0), p.Shared()} {
		for k := range l[:cap(l)] {
			l[:cap(l)][k] = -7
		}
	}
	if !slices.Equal(p.Own(0), own) || !slices.Equal(p.Shared(), shared) || len(own) != 2 || len(shared) != 2 || m.Steps() != before {
		t.Error(p.Own(0), own, p.Shared(), shared, m.Steps()-before)
	}
	for range 3 {
		run(t, p.Take(0))
	}
	run(t, p.Give(0, 4))
	if !slices.Equal(sorted(append(own, shared...)), upTo(4)) {
		t.Error("an act changed what was returned:", own, shared)
	}
}

// Acts, and what neither Take nor Give nor New made, answer as if there were none.
func TestNothing(t *testing.T) {
	for _, a := range []*pool.Act{nil, {}} {
		if !a.Step() || !a.Over() || a.Slot() != -1 {
			t.Error(a.Step(), a.Over(), a.Slot())
		}
	}
	for _, p := range []*pool.Pool{nil, {}} {
		p.Keep(0, pool.Node{Path: []int{1}, Bound: 1})
		for _, k := range []int{-1, 0, 1} {
			if p.Take(k) != nil || p.Give(k, 0) != nil || p.Give(0, k) != nil || len(p.Own(k)) != 0 || p.Bound(k) != 0 || len(p.Node(k).Path) != 0 || p.Node(k).Bound != 0 {
				t.Error(k)
			}
		}
		if p.Slots() != 0 || len(p.Shared()) != 0 {
			t.Error(p.Slots(), p.Shared())
		}
	}
}

// A slot that is not held doesn't come to a second place if it is given: not if it is free, nor if another act gives it at the same time.
func TestGiveWhatIsNotHeld(t *testing.T) {
	p, m := made(t, 4, 2)
	free := func(want ...int) {
		t.Helper()
		l := append(append(p.Own(0), p.Own(1)...), p.Shared()...)
		if !slices.Equal(sorted(l), want) {
			t.Fatal(p.Own(0), p.Own(1), p.Shared(), "not", want)
		}
	}
	for slot := range 4 {
		run(t, p.Give(0, slot)) // a shared one
		free(0, 1, 2, 3)
	}
	for range 4 {
		run(t, p.Take(0))
	}
	for slot := range 3 {
		for worker := range 2 {
			run(t, p.Give(worker, slot))
			free(upTo(slot + 1)...)
		}
	}
	// worker 0 keeps 0 and 1, and gives 3 to all, while others do so too
	a, b := p.Give(0, 3), p.Give(0, 3)
	a.Step()
	run(t, p.Give(1, 3))
	before := m.Steps()
	b.Step()
	if m.Steps() != before || !b.Over() || b.Slot() != 3 {
		t.Fatal(m.Steps()-before, b.Over(), b.Slot())
	}
	run(t, a)
	free(0, 1, 2, 3)
	run(t, p.Give(0, 3))
	free(0, 1, 2, 3)
}

// Whatever others write to the cells, everything ends, and no slot is told that isn't there.
func TestCellsThatOthersChange(t *testing.T) {
	numbers := []int{math.MinInt, -1, 0, 1, 2, 4, 5, 1 << 31, 1 << 32, 1<<32 + 1, 1<<32 + 5, 1<<32 + 6, 1 << 62, math.MaxInt}
	for i := range 6 {
		for _, n := range numbers {
			for _, other := range numbers {
				for steps := range 3 {
					p, m := made(t, 5, 2)
					slot := run(t, p.Take(1))
					run(t, p.Give(1, run(t, p.Take(0))))
					run(t, p.Give(1, run(t, p.Take(0))))
					a, b := p.Take(0), p.Give(1, slot) // which is to go to all
					for range steps {
						a.Step()
						b.Step()
					}
					m.Set(i, n)
					m.Set((i+1)%6, other)
					if l := p.Shared(); len(l) > 5 {
						t.Fatal(i, n, other, l)
					}
					for range 8 { // what others write may cause as many Steps as an act of theirs
						b.Step()
					}
					for range 8 {
						a.Step()
					}
					if !b.Over() || b.Slot() != slot || !a.Over() || a.Slot() < -1 || a.Slot() > 4 {
						t.Fatal(i, n, other, b.Over(), b.Slot(), a.Over(), a.Slot())
					}
				}
			}
		}
	}
}
