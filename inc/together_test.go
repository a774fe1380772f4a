package inc_test

import (
	"fmt"
	"math/rand"
	"slices"
	"testing"

	"kurgan/cell"
	"kurgan/inc"
)

// bidder is a worker who offers solutions of these costs, one behind the other.
type bidder struct {
	costs []int
	act   *inc.Act
	x     []int // what the act offers
	cost  int
	steps int       // of the act
	taken int       // how many solutions of others were taken since the act began
	ops   []cell.Op // the steps of the memory that the act made
}

// crew is workers at one incumbent, after each of whose Steps everything is held against the chapter's words.
type crew struct {
	t       *testing.T
	m       *cell.Mem
	i       *inc.Inc
	bidders []*bidder
	x       []int // the solution that was taken last
	least   int
	told    []int // who made the Steps
}

func gathered(t *testing.T, first int, costs ...[]int) *crew {
	i, m := made(t, len(costs), []int{-1}, first)
	c := &crew{t: t, m: m, i: i, x: []int{-1}, least: first}
	for _, l := range costs {
		c.bidders = append(c.bidders, &bidder{costs: l})
	}
	return c
}

// step makes the next Step of a worker; false: it has nothing more to offer.
func (c *crew) step(worker int) bool {
	b := c.bidders[worker]
	if b.act == nil && len(b.costs) == 0 {
		return false
	}
	before := c.m.Steps()
	if b.act == nil {
		b.cost, b.x = b.costs[0], []int{worker, len(b.costs), b.costs[0]}
		b.costs = b.costs[1:]
		b.act = c.i.Offer(worker, b.x, b.cost)
		b.steps, b.taken, b.ops = 0, 0, nil
	}
	c.told = append(c.told, worker)
	done := b.act.Step()
	b.steps++
	if c.m.Steps() > before {
		b.ops = append(b.ops, c.m.Last())
	}
	if made := c.m.Steps() - before; made < 0 || made > 1 || done != b.act.Over() || !done && b.act.Taken() {
		c.fail("a Step made so many steps:", made)
	}
	if b.steps > 2*(1+b.taken) {
		c.fail("not over after so many Steps:", b.steps)
	}
	if done {
		c.end(b)
	}
	if x, cost := c.i.Best(); !slices.Equal(x, c.x) || cost != c.least || c.m.Peek(0) != 71 || c.m.Peek(2) != 73 {
		c.fail("Best is", x, cost, "not", c.x, c.least)
	}
	return true
}

func (c *crew) fail(what ...any) { c.t.Fatal(append(what, "after", c.told)...) }

// end holds an act that is over against the least cost just before its last Step.
func (c *crew) end(b *bidder) {
	if taken := b.act.Taken(); taken != (b.cost < c.least) {
		c.fail(b.x, "is taken:", taken, "though the least one was", c.least)
	}
	if b.act.Taken() {
		c.x, c.least = b.x, b.cost
		for _, other := range c.bidders {
			if other != b {
				other.taken++
			}
		}
	}
	b.act = nil
}

// state tells all that hangs on the order of the Steps: what may follow is the same for two orders that come to the same state. What an act knows is what its steps of the memory answered.
func (c *crew) state() string {
	l := []any{c.m.All(), c.x}
	for _, b := range c.bidders {
		l = append(l, len(b.costs), b.act != nil, 2*b.taken-b.steps, b.ops)
	}
	return fmt.Sprint(l...)
}

// all goes through every order of the Steps, but for what follows on a state that another order came to. It answers how many states there are.
func all(t *testing.T, first int, costs ...[]int) int {
	orders, seen := [][]int{nil}, map[string]int{}
	for len(orders) > 0 {
		order := orders[len(orders)-1]
		orders = orders[:len(orders)-1]
		for worker := range costs {
			c := gathered(t, first, costs...)
			for _, w := range order {
				c.step(w)
			}
			if !c.step(worker) {
				continue
			}
			if state := c.state(); seen[state] == 0 {
				seen[state] = 1
				orders = append(orders, c.told)
			}
		}
	}
	return len(seen)
}

func TestAllOrders(t *testing.T) {
	for _, costs := range [][][]int{
		{{7}, {8}},
		{{7}, {7}},
		{{5}, {6}, {7}},
		{{7}, {7}, {7}},
		{{9}, {10}, {8}},
		{{8, 6}, {7, 5}},
		{{8, 8}, {8, 7}},
		{{5, 6, 4}, {6, 5, 3}},
		{{8, 6, 4, 2}, {7, 5, 3, 1}},
		{{8, 7, 6}, {5}, {4}},
		{{8, 6}, {7, 5}, {6, 4}},
		{{3}, {4}, {5}, {6}},
	} {
		if n := all(t, 9, costs...); n < 2 {
			t.Error(costs, n)
		}
	}
}

// One act is slow: for each solution that is taken meanwhile it looks once more, and no solution is lost.
func TestSlowAct(t *testing.T) {
	for others := range 20 {
		var l []int
		for k := range others {
			l = append(l, 100-k)
		}
		c := gathered(t, 200, []int{1}, l)
		for range others {
			c.step(0)
			c.step(1)
			c.step(1)
			c.step(0)
		}
		for c.step(0) {
		}
		if c.least != 1 || len(c.told) != 4*others+2 {
			t.Fatal(others, c.least, c.told)
		}
	}
}

// Long rows of offers of many workers, in orders that are drawn: of even chances, or with one worker that is rarely picked.
func TestManyOrders(t *testing.T) {
	r := rand.New(rand.NewSource(71))
	for round := range 300 {
		workers := 1 + r.Intn(16)
		var costs [][]int
		for range workers {
			var l []int
			for k := range 20 {
				l = append(l, r.Intn(60*(20-k)))
			}
			costs = append(costs, l)
		}
		c := gathered(t, 1000, costs...)
		rare, idle := r.Intn(workers), 0
		for idle < 50*workers {
			worker := r.Intn(workers)
			if round%2 == 0 && worker == rare && r.Intn(20) > 0 {
				continue
			}
			idle++
			if c.step(worker) {
				idle = 0
			}
		}
		least := 1000
		for worker := range workers {
			for c.step(worker) {
			}
			least = min(least, slices.Min(costs[worker]))
		}
		if c.least != least || c.i.Look() != least {
			t.Fatal(c.least, least)
		}
	}
}

// Many workers begin at the same time, and each is picked in turn.
func TestAllInTurn(t *testing.T) {
	for workers := 1; workers <= 16; workers++ {
		for _, by := range []int{-1, 0, 1} {
			var costs [][]int
			for worker := range workers {
				costs = append(costs, []int{50 + by*worker, 30 - by*worker, 20})
			}
			c := gathered(t, 100, costs...)
			for going := true; going; {
				going = false
				for worker := range workers {
					going = c.step(worker) || going
				}
			}
			if c.least != min(20, 30-by*(workers-1), 30) {
				t.Fatal(c.least)
			}
		}
	}
}
