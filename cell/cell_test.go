package cell_test

import (
	"fmt"
	"math"
	"math/big"
	"math/rand"
	"slices"
	"sync"
	"testing"

	"kurgan/api"
	"kurgan/cell"
)

func memory(t *testing.T, n int) *cell.Mem {
	t.Helper()
	m, e := cell.New(n)
	if e != api.OK || m == nil {
		t.Fatalf("New(%d) = %v, %d", n, m, e)
	}
	return m
}

// model is what a memory is to be, by the words of the chapter.
type model struct {
	cells []int
	steps int
	last  cell.Op
}

// hold: everything that can be asked without a step is as the model has it.
func (w *model) hold(t *testing.T, m *cell.Mem) {
	t.Helper()
	if m.Size() != len(w.cells) || m.Steps() != w.steps || m.Last() != w.last || !slices.Equal(m.All(), w.cells) {
		t.Fatalf("%d cells %v, %d steps, the last %v; not %v", m.Size(), m.All(), m.Steps(), m.Last(), w)
	}
	for i, n := range w.cells {
		if m.Peek(i) != n {
			t.Fatalf("Peek(%d) = %d, not %d", i, m.Peek(i), n)
		}
	}
	for _, i := range []int{math.MinInt, -1, len(w.cells), math.MaxInt} {
		if m.Peek(i) != 0 {
			t.Fatalf("Peek(%d) = %d", i, m.Peek(i))
		}
	}
	if m.Steps() != w.steps || m.Last() != w.last {
		t.Fatal("to ask was a step")
	}
}

// call is one call of Get, Set, Cas or Bump.
type call struct {
	kind, i, old, n int
}

// answer is what it answers, as text: each has its own results.
func (c call) answer(m *cell.Mem) string {
	switch c.kind {
	case cell.Read:
		return fmt.Sprint(m.Get(c.i))
	case cell.Write:
		return fmt.Sprint(m.Set(c.i, c.n))
	case cell.Swap:
		return fmt.Sprint(m.Cas(c.i, c.old, c.n))
	}
	return fmt.Sprint(m.Bump(c.i, c.n))
}

// wanted is what it is to answer, and makes its step in the model.
func (c call) wanted(w *model) string {
	if c.i < 0 || c.i >= len(w.cells) {
		return map[int]string{1: "0 11", 2: "11", 3: "false 11", 4: "0 11"}[c.kind]
	}
	now := w.cells[c.i]
	op := cell.Op{Kind: c.kind, Cell: c.i, Old: now, New: c.n, Done: true}
	answer := "0"
	switch c.kind {
	case 1:
		op.New = now
		answer = fmt.Sprint(now, 0)
	case 3:
		if now != c.old {
			op.New, op.Done = now, false
		}
		answer = fmt.Sprint(op.Done, 0)
	case 4:
		sum := new(big.Int).Add(big.NewInt(int64(now)), big.NewInt(int64(c.n)))
		if !sum.IsInt64() {
			return "0 12"
		}
		op.New = int(sum.Int64())
		answer = fmt.Sprint(now, 0)
	}
	w.cells[c.i], w.last = op.New, op
	w.steps++
	return answer
}

func do(t *testing.T, m *cell.Mem, w *model, c call) {
	t.Helper()
	before := slices.Clone(w.cells)
	if want, got := c.wanted(w), c.answer(m); got != want {
		t.Fatalf("%v on %v: %s, not %s", c, before, got, want)
	}
	w.hold(t, m)
}

func TestKindsOfSteps(t *testing.T) {
	if cell.Read != 1 || cell.Write != 2 || cell.Swap != 3 || cell.Add != 4 {
		t.Error(cell.Read, cell.Write, cell.Swap, cell.Add)
	}
}

func TestNew(t *testing.T) {
	for _, n := range []int{0, 1, 2, 1000, 1<<20 - 1, 1 << 20} {
		m := memory(t, n)
		if m.Size() != n || m.Steps() != 0 || m.Last() != (cell.Op{}) || !slices.Equal(m.All(), make([]int, n)) {
			t.Error(n, m.Size(), m.Steps(), m.Last())
		}
	}
	for _, n := range []int{math.MinInt, -1 << 20, -1, 1<<20 + 1, 1 << 32, math.MaxInt} {
		if m, e := cell.New(n); m != nil || e != api.ErrArg {
			t.Errorf("New(%d) = %v, %d", n, m, e)
		}
	}
}

// Each kind of step at the first and the last cell, and at both places where there is none.
func TestFirstAndLastCell(t *testing.T) {
	for _, n := range []int{0, 1, 2, 3, 7} {
		m, w := memory(t, n), &model{cells: make([]int, n)}
		w.hold(t, m)
		for _, i := range []int{math.MinInt, -1, 0, n - 1, n, n + 1, math.MaxInt} {
			for kind := cell.Read; kind <= cell.Add; kind++ {
				do(t, m, w, call{kind, i, w.steps, 5})
				do(t, m, w, call{kind, i, 5, 0})
				do(t, m, w, call{kind, i, 0, -3})
			}
		}
	}
	m := memory(t, 1<<20)
	for _, i := range []int{0, 1<<20 - 1} {
		if e := m.Set(i, 7); e != api.OK || m.Peek(i) != 7 {
			t.Error(i, e)
		}
		if n, e := m.Bump(i, 2); n != 7 || e != api.OK {
			t.Error(i, n, e)
		}
		if ok, e := m.Cas(i, 9, 4); !ok || e != api.OK {
			t.Error(i, ok, e)
		}
		if n, e := m.Get(i); n != 4 || e != api.OK {
			t.Error(i, n, e)
		}
	}
	if e := m.Set(1<<20, 7); e != api.ErrMiss || m.Steps() != 8 {
		t.Error(e, m.Steps())
	}
}

// A swap is done if the cell has the old number, even if the new one is the same; and otherwise not, even if it has the new one.
func TestSwaps(t *testing.T) {
	l := []int{math.MinInt, -1, 0, 1, 2, math.MaxInt}
	for _, now := range l {
		for _, old := range l {
			for _, n := range l {
				m, w := memory(t, 2), &model{cells: make([]int, 2)}
				do(t, m, w, call{cell.Write, 1, 0, now})
				do(t, m, w, call{cell.Swap, 1, old, n})
				if last := m.Last(); last.Done != (now == old) || last.Kind != cell.Swap || m.Steps() != 2 {
					t.Error(now, old, n, last)
				}
			}
		}
	}
}

// Sums up to both ends of what an int is, and one beyond them; that is an error for a cell that is there alone.
func TestSums(t *testing.T) {
	l := []int{math.MinInt, math.MinInt + 1, -1 << 62, -2, -1, 0, 1, 2, 1 << 62, math.MaxInt - 1, math.MaxInt}
	for _, now := range l {
		for _, by := range l {
			m, w := memory(t, 3), &model{cells: make([]int, 3)}
			do(t, m, w, call{cell.Write, 2, 0, now})
			do(t, m, w, call{cell.Add, 2, 0, by})
			do(t, m, w, call{cell.Add, 3, 0, by})
			do(t, m, w, call{cell.Add, -1, 0, by})
		}
	}
	m := memory(t, 1)
	if n, e := m.Bump(0, math.MaxInt); n != 0 || e != api.OK {
		t.Error(n, e)
	}
	if n, e := m.Bump(0, 1); n != 0 || e != api.ErrOver || m.Steps() != 1 || m.Last().New != math.MaxInt || m.Peek(0) != math.MaxInt {
		t.Error(n, e, m.Steps(), m.Last())
	}
}

// In long rows of steps each changes its own cell alone, and what was told last is the last one that was made.
func TestManySteps(t *testing.T) {
	r := rand.New(rand.NewSource(60))
	numbers := []int{math.MinInt, -2, -1, 0, 1, 2, math.MaxInt}
	for n := range 6 {
		m, w := memory(t, n), &model{cells: make([]int, n)}
		for range 3000 {
			c := call{1 + r.Intn(4), r.Intn(n+2) - 1, numbers[r.Intn(7)], numbers[r.Intn(7)]}
			if c.i >= 0 && c.i < n && r.Intn(2) == 0 {
				c.old = w.cells[c.i]
			}
			do(t, m, w, c)
		}
	}
}

func TestMemoriesOfTheirOwn(t *testing.T) {
	m, other := memory(t, 3), memory(t, 3)
	m.Set(1, 5)
	l := m.All()
	for k := range l[:cap(l)] {
		l[:cap(l)][k] = 7
	}
	if !slices.Equal(m.All(), []int{0, 5, 0}) || !slices.Equal(other.All(), make([]int, 3)) || other.Steps() != 0 {
		t.Error(m.All(), other.All())
	}
	l = m.All()
	m.Set(0, 8)
	if !slices.Equal(l, []int{0, 5, 0}) {
		t.Error("a step changed what All had answered:", l)
	}
}

func TestNilMemory(t *testing.T) {
	var m *cell.Mem
	for _, i := range []int{math.MinInt, -1, 0, 1, math.MaxInt} {
		if n, e := m.Get(i); n != 0 || e != api.ErrArg {
			t.Error(i, n, e)
		}
		if e := m.Set(i, 3); e != api.ErrArg {
			t.Error(i, e)
		}
		if ok, e := m.Cas(i, 0, 0); ok || e != api.ErrArg {
			t.Error(i, ok, e)
		}
		if n, e := m.Bump(i, math.MinInt); n != 0 || e != api.ErrArg {
			t.Error(i, n, e)
		}
		if n := m.Peek(i); n != 0 {
			t.Error(i, n)
		}
	}
	if m.Size() != 0 || m.Steps() != 0 || m.Last() != (cell.Op{}) || len(m.All()) != 0 {
		t.Error(m.Size(), m.Steps(), m.Last(), m.All())
	}
}

// A memory that New didn't make has no cells.
func TestEmptyMemory(t *testing.T) {
	m, w := &cell.Mem{}, &model{}
	w.hold(t, m)
	for kind := cell.Read; kind <= cell.Add; kind++ {
		do(t, m, w, call{kind, 0, 0, 0})
	}
}

// Each step is whole, whoever else makes steps: no sum is lost, and of those who swap the same number one does.
func TestStepsAreWhole(t *testing.T) {
	const workers, rounds = 8, 500
	m := memory(t, rounds+1)
	won := make([]int, workers)
	var all sync.WaitGroup
	for worker := range workers {
		all.Go(func() {
			for k := range rounds {
				m.Bump(rounds, 1)
				if ok, _ := m.Cas(k, 0, worker+1); ok {
					won[worker]++
				}
				m.Get(k)
				m.Peek(k)
				m.Last()
			}
		})
	}
	all.Wait()
	sum := 0
	for _, n := range won {
		sum += n
	}
	if m.Peek(rounds) != workers*rounds || sum != rounds || m.Steps() != 3*workers*rounds {
		t.Error(m.Peek(rounds), sum, m.Steps())
	}
}
