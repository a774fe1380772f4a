package count_test

import (
	"fmt"
	"math/rand"
	"testing"

	"kurgan/cell"
	"kurgan/count"
)

// member is a worker who goes through a script: + and - count one open subproblem more or less, * counts none more, and l leaves, behind which it does nothing more if it has left.
type member struct {
	script string
	act    *count.Act
	steps  int       // of the act
	gone   int       // how many others have left since the act began
	ops    []cell.Op // the steps of the memory that the act made
	left   bool
}

// crew is workers with one Count, after each of whose Steps everything is held against the chapter's words.
type crew struct {
	t       *testing.T
	m       *cell.Mem
	c       *count.Count
	members []*member
	open    int
	working int
	told    []int // who made the Steps
}

func gathered(t *testing.T, scripts ...string) *crew {
	n, m := made(t, 3, len(scripts))
	c := &crew{t: t, m: m, c: n, open: 3, working: len(scripts)}
	for _, script := range scripts {
		c.members = append(c.members, &member{script: script})
	}
	return c
}

// step makes the next Step of a worker; false: it has nothing more to do.
func (c *crew) step(worker int) bool {
	w := c.members[worker]
	if w.left || w.act == nil && w.script == "" {
		return false
	}
	c.told = append(c.told, worker)
	before := c.m.Steps()
	if w.act == nil {
		letter := w.script[0]
		w.script = w.script[1:]
		if letter != 'l' {
			n := map[byte]int{'+': 1, '-': -1}[letter]
			c.c.More(n)
			c.open += n
			c.hold(before + 1)
			return true
		}
		w.act = c.c.Leave()
		w.steps, w.gone, w.ops = 0, 0, nil
	}
	c.goOn(w, before)
	return true
}

// goOn makes a Step of an act.
func (c *crew) goOn(w *member, before int) {
	done := w.act.Step()
	w.steps++
	if c.m.Steps() > before {
		w.ops = append(w.ops, c.m.Last())
	}
	if done != w.act.Over() || !done && w.act.Left() {
		c.fail("over", done, w.act.Over(), w.act.Left())
	}
	if w.steps > 2*(1+w.gone) {
		c.fail("not over after so many Steps:", w.steps)
	}
	if done {
		c.end(w)
	}
	c.hold(before + 1)
}

func (c *crew) fail(what ...any) { c.t.Fatal(append(what, "after", c.told)...) }

// end holds an act that is over against how many were active just before its last Step.
func (c *crew) end(w *member) {
	w.left = w.act.Left()
	if w.left != (c.working > 1) {
		c.fail("left", w.left, "of", c.working)
	}
	if w.left {
		c.working--
		for _, other := range c.members {
			if other != w {
				other.gone++
			}
		}
	}
	w.act = nil
}

// hold: no number is lost, somebody is active, and the memory made no more steps than it may have.
func (c *crew) hold(steps int) {
	active := 0
	for _, w := range c.members {
		if !w.left {
			active++
		}
	}
	open, working := c.c.Now()
	if open != c.open || working != c.working || working != active || active < 1 || c.m.Steps() > steps || c.m.Peek(0) != 71 || c.m.Peek(3) != 73 {
		c.fail("Now is", open, working, "not", c.open, c.working, "and active are", active)
	}
}

// state tells all that hangs on the order of the Steps: what may follow is the same for two orders that come to the same state. What an act knows is what its steps of the memory answered.
func (c *crew) state() string {
	l := []any{c.m.All()}
	for _, w := range c.members {
		l = append(l, len(w.script), w.act != nil, 2*w.gone-w.steps, w.ops, w.left)
	}
	return fmt.Sprint(l...)
}

// all goes through every order of the Steps, but for what follows on a state that another order came to. It answers how many states there are.
func all(t *testing.T, scripts ...string) int {
	orders, seen := [][]int{nil}, map[string]int{}
	for len(orders) > 0 {
		order := orders[len(orders)-1]
		orders = orders[:len(orders)-1]
		for worker := range scripts {
			c := gathered(t, scripts...)
			for _, w := range order {
				c.step(w)
			}
			if !c.step(worker) {
				continue
			}
			if state := c.state(); seen[state] == 0 {
				seen[state] = 1
				orders = append(orders, c.told)
			}
		}
	}
	return len(seen)
}

func TestAllOrders(t *testing.T) {
	for _, scripts := range [][]string{
		{"l"},
		{"l", "l"},
		{"l", "l", "l"},
		{"l", "l", "l", "l"},
		{"+l-", "-l+"},
		{"+l", "-l", "*l"},
		{"l+", "l-", "l*"},
		{"l+l", "l-l"},
		{"ll", "ll", "ll"},
		{"+", "l", "l"},
		{"+l-l", "*l", "l"},
	} {
		if n := all(t, scripts...); n < 2 && len(scripts) > 1 {
			t.Error(scripts, n)
		}
	}
}

// All leave at the same time, and each is picked in turn: just one stays.
func TestAllInTurn(t *testing.T) {
	for workers := 1; workers <= 16; workers++ {
		var scripts []string
		for range workers {
			scripts = append(scripts, "l")
		}
		c := gathered(t, scripts...)
		for going := true; going; {
			going = false
			for worker := range workers {
				going = c.step(worker) || going
			}
		}
		if c.working != 1 {
			t.Fatal(workers, c.working)
		}
	}
}

// Orders that are drawn: of even chances, or with one worker that is rarely picked.
func TestManyOrders(t *testing.T) {
	r := rand.New(rand.NewSource(72))
	for round := range 600 {
		workers := 1 + r.Intn(16)
		var scripts []string
		for range workers {
			script := ""
			for range r.Intn(5) {
				script += string("++-*"[r.Intn(4)])
			}
			scripts = append(scripts, script+"l"+"+-*l-"[:r.Intn(6)])
		}
		c := gathered(t, scripts...)
		rare := r.Intn(workers)
		for range 60 * workers {
			worker := r.Intn(workers)
			if round%2 == 0 && worker == rare && r.Intn(20) > 0 {
				continue
			}
			c.step(worker)
		}
		for worker := range workers {
			for c.step(worker) {
			}
		}
		if c.working != 1 || c.c.Working() != 1 || c.c.Open() != c.open {
			t.Fatal(workers, c.working, c.open)
		}
	}
}
