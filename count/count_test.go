package count_test

import (
	"math"
	"slices"
	"testing"

	"kurgan/api"
	"kurgan/cell"
	"kurgan/count"
)

func memory(t *testing.T, cells int) *cell.Mem {
	t.Helper()
	m, e := cell.New(cells)
	if e != api.OK {
		t.Fatal(e)
	}
	return m
}

// made is a Count in the two cells in the middle of four.
func made(t *testing.T, open, workers int) (*count.Count, *cell.Mem) {
	t.Helper()
	m := memory(t, 4)
	m.Set(0, 71)
	m.Set(3, 73)
	c, e := count.New(m, 1, open, workers)
	if c == nil || e != api.OK {
		t.Fatal(c, e)
	}
	return c, m
}

// counts holds the two numbers, and the steps that telling them makes.
func counts(t *testing.T, c *count.Count, m *cell.Mem, open, working int) {
	t.Helper()
	steps := m.Steps()
	if o, w := c.Now(); o != open || w != working || m.Steps() != steps {
		t.Fatalf("Now is %d, %d, not %d, %d, with %d steps", o, w, open, working, m.Steps()-steps)
	}
	if o := c.Open(); o != open || m.Steps() != steps+1 || m.Last() != (cell.Op{Kind: cell.Read, Cell: 1, Old: open, New: open, Done: true}) {
		t.Fatalf("Open is %d, not %d, by %v", o, open, m.Last())
	}
	if w := c.Working(); w != working || m.Steps() != steps+2 || m.Last() != (cell.Op{Kind: cell.Read, Cell: 2, Old: working, New: working, Done: true}) {
		t.Fatalf("Working is %d, not %d, by %v", w, working, m.Last())
	}
	if m.Peek(0) != 71 || m.Peek(3) != 73 {
		t.Fatal("other cells were changed", m.All())
	}
}

// leave goes through an act alone, and tells whether the worker has left.
func leave(t *testing.T, c *count.Count, m *cell.Mem) bool {
	t.Helper()
	steps := m.Steps()
	a := c.Leave()
	if a == nil || a.Over() || a.Left() || m.Steps() != steps {
		t.Fatal("an act is begun", a, m.Steps()-steps)
	}
	for made := 1; ; made++ {
		done := a.Step()
		if done != a.Over() || m.Steps() > steps+made || made > 2 || !done && a.Left() {
			t.Fatal("Step", made, done, a.Over(), a.Left(), m.Steps()-steps)
		}
		if done {
			break
		}
	}
	steps, left, cells := m.Steps(), a.Left(), m.All()
	for range 3 {
		if !a.Step() || !a.Over() || a.Left() != left || m.Steps() != steps || !slices.Equal(m.All(), cells) {
			t.Fatal("behind its end an act goes on")
		}
	}
	return left
}

func TestNew(t *testing.T) {
	m := memory(t, 5)
	for _, c := range []struct {
		m                   *cell.Mem
		base, open, workers int
		e                   api.Errno
	}{
		{m, 0, 0, 1, api.OK}, {m, 3, 1, 16, api.OK}, {m, 2, math.MaxInt, 2, api.OK}, {m, 1, 1 << 40, 15, api.OK},
		{nil, 0, 0, 1, api.ErrArg}, {&cell.Mem{}, 0, 0, 1, api.ErrArg},
		{m, -1, 0, 1, api.ErrArg}, {m, -2, 0, 1, api.ErrArg}, {m, 4, 0, 1, api.ErrArg}, {m, 5, 0, 1, api.ErrArg}, {m, math.MinInt, 0, 1, api.ErrArg}, {m, math.MaxInt, 0, 1, api.ErrArg}, {m, math.MaxInt - 1, 0, 1, api.ErrArg},
		{m, 0, -1, 1, api.ErrArg}, {m, 0, math.MinInt, 1, api.ErrArg},
		{m, 0, 0, 0, api.ErrArg}, {m, 0, 0, -1, api.ErrArg}, {m, 0, 0, 17, api.ErrArg}, {m, 0, 0, math.MinInt, api.ErrArg}, {m, 0, 0, math.MaxInt, api.ErrArg},
		{nil, -1, -1, 0, api.ErrArg},
	} {
		before, steps := c.m.All(), c.m.Steps()
		n, e := count.New(c.m, c.base, c.open, c.workers)
		if e != c.e || (n == nil) != (e != api.OK) {
			t.Errorf("New(%d, %d, %d) = %v, %d, not %d", c.base, c.open, c.workers, n, e, c.e)
			continue
		}
		if e != api.OK {
			if !slices.Equal(c.m.All(), before) || c.m.Steps() != steps {
				t.Errorf("New(%d, %d, %d) is wrong and changed the memory", c.base, c.open, c.workers)
			}
			continue
		}
		if open, working := n.Now(); open != c.open || working != c.workers || c.m.Peek(c.base) != open || c.m.Peek(c.base+1) != working {
			t.Error(open, working, c.m.All())
		}
		for at, number := range c.m.All() {
			if at != c.base && at != c.base+1 && number != before[at] {
				t.Error("New changed the cell", at)
			}
		}
	}
}

func TestNewWithoutCells(t *testing.T) {
	for cells := range 2 {
		for _, base := range []int{-2, -1, 0, 1} {
			if c, e := count.New(memory(t, cells), base, 0, 1); c != nil || e != api.ErrArg {
				t.Error(cells, base, c, e)
			}
		}
	}
	c, e := count.New(memory(t, 2), 0, 7, 3)
	if open, working := c.Now(); e != api.OK || open != 7 || working != 3 {
		t.Error(e, open, working)
	}
}

func TestMore(t *testing.T) {
	c, m := made(t, 5, 3)
	counts(t, c, m, 5, 3)
	open := 5
	for _, n := range []int{1, 1, -1, 0, 40, -46, -1, 1, -7, 1 << 40, -(1 << 40), 7, 1, -1, 0} {
		steps := m.Steps()
		c.More(n)
		open += n
		if m.Steps() != steps+1 || m.Last() != (cell.Op{Kind: cell.Add, Cell: 1, Old: open - n, New: open, Done: true}) {
			t.Fatal(n, m.Last())
		}
		counts(t, c, m, open, 3)
	}
}

func TestMoreAtTheEnds(t *testing.T) {
	c, m := made(t, math.MaxInt, 1)
	c.More(0)
	counts(t, c, m, math.MaxInt, 1)
	c.More(1) // the sum is no int
	counts(t, c, m, math.MaxInt, 1)
	c.More(-math.MaxInt)
	counts(t, c, m, 0, 1)
	c.More(math.MinInt)
	counts(t, c, m, math.MinInt, 1)
	c.More(-1)
	counts(t, c, m, math.MinInt, 1)
	c.More(math.MaxInt)
	counts(t, c, m, -1, 1)
}

func TestAllLeaveButTheLastOne(t *testing.T) {
	for workers := 1; workers <= 16; workers++ {
		c, m := made(t, 9, workers)
		for working := workers; working > 1; working-- {
			counts(t, c, m, 9, working)
			if !leave(t, c, m) {
				t.Fatal("does not leave", working, "of", workers)
			}
		}
		for range 3 {
			counts(t, c, m, 9, 1)
			if leave(t, c, m) {
				t.Fatal("the last one leaves, of", workers)
			}
		}
		counts(t, c, m, 9, 1)
	}
}

// With nothing open the last one stays as well.
func TestLeaveWithNothingOpen(t *testing.T) {
	for _, open := range []int{0, 1, -1} {
		c, m := made(t, 0, 2)
		c.More(open)
		if !leave(t, c, m) || leave(t, c, m) {
			t.Fatal(open)
		}
		counts(t, c, m, open, 1)
	}
}

func TestExample(t *testing.T) {
	for first := range 2 {
		c, m := made(t, 0, 2)
		acts := []*count.Act{c.Leave(), c.Leave()}
		acts[0].Step()
		acts[1].Step()
		for !acts[first].Step() {
		}
		for k := 0; !acts[1-first].Step(); k++ {
			if k == 3 {
				t.Fatal("it goes on")
			}
		}
		if !acts[first].Left() || acts[1-first].Left() {
			t.Fatal(acts[0].Left(), acts[1].Left())
		}
		counts(t, c, m, 0, 1)
	}
}

func TestNils(t *testing.T) {
	for _, c := range []*count.Count{nil, {}} {
		c.More(5)
		c.More(-5)
		c.More(0)
		if open, working := c.Now(); open != 0 || working != 0 || c.Open() != 0 || c.Working() != 0 {
			t.Error(open, working)
		}
	}
	var none *count.Count
	if none.Leave() != nil {
		t.Error("an act of none")
	}
	a := (&count.Count{}).Leave()
	for k := 0; !a.Step(); k++ {
		if k == 3 {
			t.Fatal("it goes on")
		}
	}
	if a.Left() {
		t.Error("left where nobody is")
	}
	for _, a := range []*count.Act{nil, {}, none.Leave()} {
		for range 3 {
			if !a.Step() || !a.Over() || a.Left() {
				t.Error("an act of none", a.Over(), a.Left())
			}
		}
	}
}

// Several Counts in one memory don't touch each other.
func TestSeveralCounts(t *testing.T) {
	m := memory(t, 6)
	var l []*count.Count
	for k := range 3 {
		c, e := count.New(m, 2*k, k, k+2)
		if e != api.OK {
			t.Fatal(e)
		}
		l = append(l, c)
	}
	l[1].More(10)
	a := l[1].Leave()
	a.Step()
	a.Step()
	if !a.Left() || !slices.Equal(m.All(), []int{0, 2, 11, 2, 2, 4}) {
		t.Fatal(a.Left(), m.All())
	}
}

// Whatever others write to the cells, each call ends, and nobody leaves where nobody is.
func TestCellsOfOthers(t *testing.T) {
	for _, n := range []int{math.MinInt, -1, 0, 1, 2, 17, math.MaxInt} {
		c, m := made(t, 1, 4)
		m.Set(2, n)
		a := c.Leave()
		for k := 0; !a.Step(); k++ {
			if k == 3 {
				t.Fatal("it goes on", n)
			}
		}
		if a.Left() != (n > 1) {
			t.Error(n, a.Left())
		}
	}
}
