package solver

import (
	"kurgan/cell"
	"kurgan/count"
	"kurgan/greedy"
	"kurgan/heap"
	"kurgan/inc"
	"kurgan/kernel"
	"kurgan/pool"
	"kurgan/work"
)

// Cells that the best solution, and what is open and who is active, need.
const (
	incCells   = 1
	countCells = 2
)

// build makes the parts of a machine, each in cells of its own. There are no errors, since problem and Config were checked.
func (m *Machine) build(c Config) {
	heapsAt := pool.Cells(c.Slots)
	each := heap.Cells(c.Levels, c.Slots)
	incAt := heapsAt + c.Workers*each
	countAt := incAt + incCells
	m.mem, _ = cell.New(countAt + countCells)

	m.pool, _ = pool.New(m.mem, 0, c.Slots, c.Workers)
	for who := range c.Workers {
		h, _ := heap.New(m.mem, heapsAt+who*each, c.Levels, m.pool)
		m.heaps = append(m.heaps, h)
	}
	x, cost, _ := greedy.Start(m.problem)
	m.inc, _ = inc.New(m.mem, incAt, c.Workers, x, cost)
	m.count, _ = count.New(m.mem, countAt, 1, c.Workers)

	k, _ := kernel.Of(m.problem)
	m.putRoot(k)
	shared := work.Shared{Kernel: k, Pool: m.pool, Heaps: m.heaps, Inc: m.inc, Count: m.count, Tape: m.tape}
	for who := range c.Workers {
		w, _ := work.New(shared, who)
		m.workers = append(m.workers, w)
	}
}

// putRoot puts the empty prefix into the heap of the first worker.
func (m *Machine) putRoot(k *kernel.Kernel) {
	take := m.pool.Take(0)
	for !take.Step() {
	}
	bound, _ := k.Bound(nil)
	m.pool.Keep(take.Slot(), pool.Node{Bound: bound})
	push := m.heaps[0].Push(take.Slot(), nil)
	for !push.Step() {
	}
}
