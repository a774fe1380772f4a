package pool_test

import (
	"fmt"
	"math/rand"
	"slices"
	"strings"
	"testing"

	"kurgan/cell"
	"kurgan/pool"
)

// hand is a worker who goes through a script: t takes a slot, g gives back the one that was taken last (if there is one), and f the one that was taken first.
type hand struct {
	script string
	slots  []int // that it holds, in the order in which they were taken
	act    *pool.Act
	gives  int       // the slot that the act gives; -1: it takes
	steps  int       // of the act
	own    []int     // what it kept for itself when the act began
	empty  bool      // was the shared stack empty since the act began?
	ended  int       // how many acts of others were over since the act began
	ops    []cell.Op // the steps of the memory that the act made
}

// crew is workers at one pool, after each of whose Steps everything is held against the chapter's words.
type crew struct {
	t     *testing.T
	m     *cell.Mem
	p     *pool.Pool
	hands []*hand
	told  []int // who made the Steps
}

// gathered begins with slots of which some are already held, or kept: the scripts ahead of a colon are gone through one by one.
func gathered(t *testing.T, slots int, scripts ...string) *crew {
	t.Helper()
	p, m := made(t, slots, len(scripts))
	c := &crew{t: t, m: m, p: p}
	for range scripts {
		c.hands = append(c.hands, &hand{})
	}
	for worker, script := range scripts {
		ahead, rest, there := strings.Cut(script, ":")
		if there {
			c.hands[worker].script = ahead
			for c.step(worker) {
			}
			script = rest
		}
		c.hands[worker].script = script
	}
	c.told = nil
	return c
}

// next begins the next act of a worker's script; false: there is none.
func (c *crew) next(worker int) bool {
	h := c.hands[worker]
	for h.act == nil {
		if h.script == "" {
			return false
		}
		letter, held := h.script[0], len(h.slots)
		h.script = h.script[1:]
		switch {
		case letter == 't':
			h.gives, h.act = -1, c.p.Take(worker)
		case held > 0 && letter == 'g':
			h.gives = h.slots[held-1]
			h.act = c.p.Give(worker, h.gives)
		case held > 0:
			h.gives = h.slots[0]
			h.act = c.p.Give(worker, h.gives)
		}
		h.steps, h.own, h.empty, h.ended, h.ops = 0, c.p.Own(worker), len(c.p.Shared()) == 0, 0, nil
	}
	return true
}

// step makes the next Step of a worker; false: it has nothing more to do.
func (c *crew) step(worker int) bool {
	c.t.Helper()
	if !c.next(worker) {
		return false
	}
	h := c.hands[worker]
	c.told = append(c.told, worker)
	before, own, shared := c.m.Steps(), c.p.Own(worker), c.p.Shared()
	done := h.act.Step()
	h.steps++
	if c.m.Steps() > before {
		h.ops = append(h.ops, c.m.Last())
	}
	if made := c.m.Steps() - before; made < 0 || made > 1 || done != h.act.Over() || !done && h.act.Slot() != -1 {
		c.fail(worker, "a Step made so many steps:", made)
	}
	if h.steps > 4*(1+h.ended) {
		c.fail(worker, "not over after so many Steps:", h.steps)
	}
	if done {
		c.end(worker, own, shared)
	} else if !slices.Equal(c.p.Own(worker), own) || !slices.Equal(c.p.Shared(), shared) {
		c.fail(worker, "slots were moved by an act that is not over")
	}
	for _, other := range c.hands {
		other.empty = other.empty || len(c.p.Shared()) == 0
	}
	c.hold(worker)
	return true
}

func (c *crew) fail(worker int, what ...any) {
	c.t.Helper()
	c.t.Fatal(append(what, "by", worker, "after", c.told, "own", c.p.Own(worker), "shared", c.p.Shared())...)
}

// end holds an act that is over against what was free just before its last Step.
func (c *crew) end(worker int, own, shared []int) {
	c.t.Helper()
	h, slot := c.hands[worker], c.hands[worker].act.Slot()
	switch {
	case h.gives >= 0:
		if slot != h.gives {
			c.fail(worker, "gave", h.gives, "and told", slot)
		}
		h.slots = slices.DeleteFunc(h.slots, func(s int) bool { return s == slot })
		if len(own) < 2 {
			own = sorted(append(own, slot))
		} else {
			shared = slices.Insert(shared, 0, slot)
		}
	case len(h.own) > 0:
		if !slices.Contains(h.own, slot) || h.steps > 1 {
			c.fail(worker, "took", slot, "not one of its own", h.own)
		}
		own = slices.DeleteFunc(own, func(s int) bool { return s == slot })
	case slot < 0:
		if slot < -1 || !h.empty {
			c.fail(worker, "took", slot, "though the stack was never empty")
		}
	default:
		if len(shared) == 0 || shared[0] != slot {
			c.fail(worker, "took", slot, "not the first of", shared)
		}
		shared = shared[1:]
	}
	if h.gives < 0 && slot >= 0 {
		h.slots = append(h.slots, slot)
	}
	if !slices.Equal(sorted(c.p.Own(worker)), sorted(own)) || !slices.Equal(c.p.Shared(), shared) {
		c.fail(worker, "is to have", own, "and all", shared)
	}
	h.act = nil
	for k, other := range c.hands {
		if k != worker {
			other.ended++
		}
	}
}

// hold: each slot is in just one place, and no worker keeps more than two.
func (c *crew) hold(worker int) {
	c.t.Helper()
	places := c.p.Shared()
	for k, h := range c.hands {
		own := c.p.Own(k)
		if len(own) > 2 {
			c.fail(worker, k, "keeps", own)
		}
		places = append(append(places, own...), h.slots...)
	}
	if !slices.Equal(sorted(places), upTo(c.p.Slots())) {
		c.fail(worker, "the slots are", places)
	}
}

// state tells all that hangs on the order of the Steps: what may follow is the same for two orders that come to the same state. What an act knows is what its steps of the memory answered.
func (c *crew) state() string {
	l := []any{c.m.All()}
	for worker, h := range c.hands {
		l = append(l, c.p.Own(worker), h.script, h.slots, h.act != nil, h.gives, h.own, h.empty, 4*h.ended-h.steps, h.ops)
	}
	return fmt.Sprint(l...)
}

// all goes through every order of the Steps of these scripts, but for what follows on a state that another order came to. It answers how many states there are.
func all(t *testing.T, slots int, scripts ...string) int {
	t.Helper()
	orders, seen := [][]int{nil}, map[string]int{}
	for len(orders) > 0 {
		order := orders[len(orders)-1]
		orders = orders[:len(orders)-1]
		for worker := range scripts {
			c := gathered(t, slots, scripts...)
			for _, w := range order {
				c.step(w)
			}
			if !c.step(worker) {
				continue
			}
			if state := c.state(); seen[state] == 0 {
				seen[state] = 1
				orders = append(orders, c.told)
			}
		}
	}
	return len(seen)
}

// In every order of the Steps of few acts.
func TestAllOrders(t *testing.T) {
	for slots := 1; slots <= 4; slots++ {
		for _, scripts := range [][]string{
			{"t", "t"},
			{"t", "t", "t"},
			{"tt", "tt"},
			{"tgt", "tgt"},
			{"tgtg", "tt"},
			{"ttgg", "ttff"},
			{"tg", "tg", "tg"},
			{"ttg", "t", "t"},
			{"tt", "t", "tg"},
		} {
			if n := all(t, slots, scripts...); n < 2 {
				t.Error(scripts, n)
			}
		}
	}
}

// Workers that already keep two slots, so that each of their further slots goes to all.
func TestAllOrdersOfSharedSlots(t *testing.T) {
	for slots := 4; slots <= 7; slots++ {
		for _, scripts := range [][]string{
			{"tttgg:g", "t"},
			{"tttgg:g", "t", "t"},
			{"tttgg:gt", "tt"},
			{"ttttgg:gg", "t", "t"},
			{"ttttgg:ff", "ttg"},
			{"t:", "ttttgg:gg"},
			{"tttgg:gttt", "tt"},
			{"tttgg:g", "tttgg:g", "t"},
			{"tttgg:g", "tttgg:g"},
		} {
			all(t, slots, scripts...)
		}
	}
}

// One read the top; others take that slot and more, and put it back, while what is below it is no longer free.
func TestTopThatIsBackAgain(t *testing.T) {
	for slots := 2; slots <= 5; slots++ {
		for _, scripts := range [][]string{
			{"t", "tttggg"},
			{"t", "tttfgg"},
			{"t", "ttttgggg"},
			{"tt", "tttggg"},
			{"tttgg:g", "tttggg"},
			{"ttttgg:gg", "tttgg"},
		} {
			all(t, slots, scripts...)
		}
	}
	p, _ := made(t, 3, 2)
	slow := p.Take(0)
	top := p.Shared()[0]
	slow.Step()
	var taken []int
	for range 3 {
		taken = append(taken, run(t, p.Take(1)))
	}
	slow.Step()
	for _, slot := range []int{taken[1], taken[2], taken[0]} { // two of which worker 1 keeps
		run(t, p.Give(1, slot))
	}
	if taken[0] != top || !slices.Equal(p.Shared(), []int{top}) {
		t.Fatal(taken, top, p.Shared())
	}
	for k := 0; !slow.Step(); k++ {
		if k == 8 {
			t.Fatal("it goes on")
		}
	}
	if slow.Slot() != top || len(p.Shared()) != 0 || len(p.Own(1)) != 2 {
		t.Fatal(slow.Slot(), p.Shared(), p.Own(1))
	}
}

// Long scripts of many workers, in orders that are drawn: of even chances, or with one worker that is rarely picked.
func TestManyOrders(t *testing.T) {
	r := rand.New(rand.NewSource(61))
	for round := range 300 {
		var scripts []string
		workers := 1 + r.Intn(16)
		for range workers {
			var script strings.Builder
			for range 30 {
				script.WriteByte("tttggf"[r.Intn(6)])
			}
			scripts = append(scripts, script.String())
		}
		c := gathered(t, 1+r.Intn(2*workers), scripts...)
		rare := r.Intn(workers)
		for left := workers; left > 0; {
			worker := r.Intn(workers)
			if round%2 == 0 && worker == rare && r.Intn(20) > 0 {
				continue
			}
			left = 0
			for other := range workers {
				if c.next(other) {
					left++
				}
			}
			c.step(worker)
		}
	}
}

// Many workers begin at the same time, and each is picked in turn: every slot is taken, and each Take that finds none saw none.
func TestAllInTurn(t *testing.T) {
	for workers := 1; workers <= 16; workers++ {
		for slots := 1; slots <= 20; slots++ {
			c := gathered(t, slots, slices.Repeat([]string{"tttgtgf"}, workers)...)
			for going := true; going; {
				going = false
				for worker := range workers {
					going = c.step(worker) || going
				}
			}
		}
	}
}
