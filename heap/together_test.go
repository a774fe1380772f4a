package heap_test

import (
	"fmt"
	"math/rand"
	"slices"
	"strconv"
	"strings"
	"testing"

	"kurgan/cell"
	"kurgan/heap"
	"kurgan/pool"
)

// worker goes through a script. The owner's, worker 0's, has bounds to push ("7", or "7@2,0" with draws) and "-" for a Pop; the others' have places to steal from.
type worker struct {
	script []string
	act    *heap.Act
	kind   string // of the act: push, pop or steal
	slot   int    // that is pushed; or that was removed, -1 until then
	draws  []int  // of a Push
	place  int    // of a Steal
	steps  int
	stolen int  // how many slots Steals removed since the act began
	could  bool // has a leaf that a Push considers taken the slot when it began? Was the place of a Steal empty since it began?
	ops    []cell.Op
}

// crew is an owner and thieves at one heap, after each of whose Steps everything is held against the chapter's words. What was removed is free, and what is pushed next is what was freed last.
type crew struct {
	*stand
	workers []*worker
	free    []int
	told    []int // who made the Steps
}

// gathered begins with what the owner did alone.
func gathered(t *testing.T, levels, slots int, ahead string, scripts ...string) *crew {
	t.Helper()
	c := &crew{stand: made(t, levels, slots)}
	for slot := range slots {
		c.free = append([]int{slot}, c.free...)
	}
	for range scripts {
		c.workers = append(c.workers, &worker{})
	}
	c.workers[0].script = strings.Fields(ahead)
	for c.step(0) {
	}
	for k, script := range scripts {
		c.workers[k].script = strings.Fields(script)
	}
	c.told = nil
	return c
}

// next begins the next act of a worker's script; false: there is none.
func (c *crew) next(who int) bool {
	w := c.workers[who]
	for w.act == nil {
		if len(w.script) == 0 {
			return false
		}
		word := w.script[0]
		w.script = w.script[1:]
		w.slot, w.steps, w.stolen, w.could = -1, 0, 0, false
		switch {
		case who > 0:
			w.place, _ = strconv.Atoi(word)
			w.kind, w.act, w.ops = "steal", c.h.Steal(w.place), nil
			w.could = len(c.h.Lists()[w.place-1]) == 0
		case word == "-":
			w.kind, w.act = "pop", c.h.Pop()
		case len(c.free) > 0:
			c.beginPush(w, word)
		}
	}
	return true
}

func (c *crew) beginPush(w *worker, word string) {
	bound, draws, _ := strings.Cut(word, "@")
	n, _ := strconv.Atoi(bound)
	w.draws = nil
	for _, draw := range strings.FieldsFunc(draws, func(r rune) bool { return r == ',' }) {
		d, _ := strconv.Atoi(draw)
		w.draws = append(w.draws, d)
	}
	last := len(c.free) - 1
	w.slot, c.free = c.free[last], c.free[:last]
	c.p.Keep(w.slot, pool.Node{Bound: n})
	w.kind, w.act = "push", c.h.Push(w.slot, w.draws)
	w.could = len(c.taking(w, c.h.Lists())) > 0
}

// taking: the leaves that a Push considers and that take its slot.
func (c *crew) taking(w *worker, lists [][]int) []int {
	leaves := (len(lists) + 1) / 2
	draws := w.draws
	if len(draws) == 0 {
		draws = []int{0}
	}
	var l []int
	for _, draw := range draws[:min(len(draws), 4)] {
		if leaf := leaves + draw%leaves; c.takes(lists[leaf-1], w.slot) {
			l = append(l, leaf)
		}
	}
	return l
}

func (c *crew) takes(list []int, slot int) bool {
	return len(list) == 0 || c.p.Bound(list[0]) >= c.p.Bound(slot)
}

func (c *crew) fail(who int, what ...any) {
	c.t.Helper()
	c.t.Fatal(append(what, "by", who, "after", c.told, "lists", c.lists())...)
}

// step makes the next Step of a worker; false: it has nothing more to do.
func (c *crew) step(who int) bool {
	if !c.next(who) {
		return false
	}
	w := c.workers[who]
	c.told = append(c.told, who)
	before, lists := c.m.Steps(), c.h.Lists()
	done := w.act.Step()
	w.steps++
	if c.m.Steps() > before {
		w.ops = append(w.ops, c.m.Last())
	}
	if made := c.m.Steps() - before; made < 0 || made > 1 || done != w.act.Over() || !done && (w.act.Slot() != -1 || w.act.Fits()) {
		c.fail(who, "a Step made so many steps:", made)
	}
	if w.steps > 100*(1+w.stolen) {
		c.fail(who, "not over after so many Steps:", w.steps)
	}
	switch w.kind {
	case "push":
		c.pushed(who, lists, done)
	case "pop":
		c.popped(who, lists, done)
	default:
		c.stole(who, lists, done)
	}
	if done {
		w.act = nil
	}
	c.hold(who)
	return true
}

// pushed: a Push changes nothing but that its slot comes to the front of a list, on the path to a leaf that takes it.
func (c *crew) pushed(who int, lists [][]int, done bool) {
	w := c.workers[who]
	if !w.act.Fits() {
		if done && w.could {
			c.fail(who, "the slot fitted when the Push began")
		}
		if done {
			c.free = append(c.free, w.slot)
		}
		c.same(who, lists, 0)
		return
	}
	place := c.place(w.slot)
	onPath := slices.ContainsFunc(c.taking(w, lists), func(leaf int) bool {
		for ; leaf > 0 && leaf != place; leaf /= 2 {
		}
		return leaf > 0
	})
	if place == 0 || !onPath || !c.takes(lists[place-1], w.slot) || !slices.Equal(c.h.Lists()[place-1], append([]int{w.slot}, lists[place-1]...)) {
		c.fail(who, "pushed to", place, "on", lists)
	}
	c.same(who, lists, place)
}

// same: no other list than that of one place was changed.
func (c *crew) same(who int, lists [][]int, but int) {
	for k, l := range c.h.Lists() {
		if k+1 != but && !slices.Equal(l, lists[k]) {
			c.fail(who, "changed", k+1, "too, on", lists)
		}
	}
}

// popped: what a Pop removes is the smallest one of all that are there at this moment; and if it removes none, none is there.
func (c *crew) popped(who int, lists [][]int, done bool) {
	w := c.workers[who]
	hand := w.act.Hand()
	if w.slot < 0 && len(hand) > 0 {
		w.slot = hand[0]
		there := slices.Concat(lists...)
		if !slices.Contains(there, w.slot) {
			c.fail(who, "removed", w.slot, "which wasn't there:", lists)
		}
		for _, slot := range there {
			if c.p.Bound(slot) < c.p.Bound(w.slot) {
				c.fail(who, "removed", w.slot, "though there was", slot)
			}
		}
	}
	if !done {
		return
	}
	if w.act.Slot() != w.slot || w.slot < 0 && len(slices.Concat(lists...)) > 0 || w.slot >= 0 && !slices.Equal(hand, []int{w.slot}) {
		c.fail(who, "told", w.act.Slot(), "and had in hand", hand, "on", lists)
	}
	if w.slot >= 0 {
		c.free = append(c.free, w.slot)
	}
}

// stole: a Steal removes the first slot of its place, or found it empty (or began again too often).
func (c *crew) stole(who int, lists [][]int, done bool) {
	w := c.workers[who]
	slot := w.act.Slot()
	if slot < 0 {
		if done && !w.could && w.steps < 98 {
			c.fail(who, "stole none at", w.place, "though it was never empty")
		}
		c.same(who, lists, 0)
		return
	}
	l := lists[w.place-1]
	if len(l) == 0 || l[0] != slot || !slices.Equal(c.h.Lists()[w.place-1], l[1:]) {
		c.fail(who, "stole", slot, "at", w.place, "on", lists)
	}
	c.same(who, lists, w.place)
	c.free = append(c.free, slot)
	c.p.Keep(slot, pool.Node{Bound: 1000 - 2000*(who%2)}) // the thief has another use for it
	for k, other := range c.workers {
		if k != who {
			other.stolen++
		}
	}
}

// hold: each slot is at exactly one place, in exactly one hand or free; and no list's keys decrease.
func (c *crew) hold(who int) {
	lists := c.h.Lists()
	all := append(slices.Concat(lists...), c.free...)
	for _, w := range c.workers {
		if w.act != nil {
			all = append(all, w.act.Hand()...)
		}
		w.could = w.could || w.act != nil && w.kind == "steal" && len(lists[w.place-1]) == 0
	}
	slices.Sort(all)
	for k, slot := range all {
		if k != slot || len(all) != c.p.Slots() {
			c.fail(who, "the slots are", all)
		}
	}
	for k, l := range lists {
		if !slices.IsSortedFunc(l, func(a, b int) int { return c.p.Bound(a) - c.p.Bound(b) }) {
			c.fail(who, "keys decrease at", k+1)
		}
	}
}

// state tells all that hangs on the order of the Steps: what may follow is the same for two orders that come to the same state. What an act knows is what its steps of the memory answered, and of the owner's acts what those of the earlier ones did as well.
func (c *crew) state() string {
	l := []any{c.m.All(), c.free}
	for slot := range c.p.Slots() {
		l = append(l, c.p.Bound(slot))
	}
	for _, w := range c.workers {
		l = append(l, w.script, w.act != nil, w.kind, w.slot, w.place, w.could, 100*w.stolen-w.steps, w.ops)
	}
	return fmt.Sprint(l...)
}

// all goes through every order of the Steps of these scripts, but for what follows on a state that another order came to. It answers how many states there are.
func all(t *testing.T, levels, slots int, ahead string, scripts ...string) int {
	t.Helper()
	orders, seen := [][]int{nil}, map[string]int{}
	for len(orders) > 0 {
		order := orders[len(orders)-1]
		orders = orders[:len(orders)-1]
		for who := range scripts {
			c := gathered(t, levels, slots, ahead, scripts...)
			for _, w := range order {
				c.step(w)
			}
			if !c.step(who) {
				continue
			}
			if state := c.state(); seen[state] == 0 {
				seen[state] = 1
				orders = append(orders, c.told)
			}
		}
	}
	return len(seen)
}

// In every order of the Steps of few acts.
func TestAllOrders(t *testing.T) {
	const tree = "1@0 2@0 3@1 4@0 5@1 6@2 7@3" // of three levels, one slot at each place
	for k, c := range []struct {
		levels, slots int
		ahead         string
		scripts       []string
	}{
		{1, 3, "5 4 3", []string{"-", "1"}},
		{1, 3, "5 4 3", []string{"-", "1", "1"}},
		{1, 3, "5 4", []string{"3", "1"}},
		{1, 3, "5 4", []string{"3 -", "1", "1"}},
		{1, 2, "5", []string{"4", "1 1"}},
		{1, 2, "5", []string{"6", "1"}},
		{1, 2, "5", []string{"- 6", "1"}},
		{1, 3, "5 4 3", []string{"", "1", "1", "1"}},
		{1, 3, "5 4 3", []string{"", "1 1", "1 1"}},
		{1, 2, "5 4", []string{"- -", "1", "1"}},
		{2, 3, "1@0 2@0 3@1", []string{"-", "1", "2"}},
		{2, 3, "1@0 2@0 3@1", []string{"-", "2", "3"}},
		{2, 3, "1@0 2@0 3@1", []string{"-", "2", "2"}},
		{2, 3, "1@0 2@0 3@1", []string{"- -", "3 1"}},
		{2, 4, "2@0 3@0 3@1 1", []string{"-", "1", "2"}}, // equal bounds
		{2, 5, "5@0 1 6@0 3@0 4@1", []string{"-", "1", "2"}},
		{2, 5, "5@0 1 6@0 3@0 4@1", []string{"-", "2", "2"}},
		{2, 5, "5@0 1 6@0 3@0 4@1", []string{"-", "2", "3"}},
		{2, 6, "6@0 5@0 1 7@1 3@0 4@1", []string{"-", "1 1", "2"}},
		{2, 4, "1@0 2@0 3@1", []string{"4@0,1", "2", "3"}},
		{2, 4, "1@0 4@0 5@1", []string{"3@1", "1", "3"}},
		{2, 4, "1@0 4@0 5@1", []string{"3@1 -", "1", "2"}},
		{2, 4, "3@0 4@0 5@1", []string{"2@1", "1", "1"}},
		{3, 7, tree, []string{"-", "1"}},
		{3, 7, tree, []string{"-", "2"}},
		{3, 7, tree, []string{"-", "4"}},
		{3, 7, tree, []string{"-", "2", "3"}},
		{3, 7, tree, []string{"-", "2", "4"}},
		{3, 7, tree, []string{"-", "2", "5"}},
		{3, 7, tree + " -", []string{"3@0", "1", "2"}},
		{3, 8, tree, []string{"6@0,1,2,3", "4", "7"}},
	} {
		t.Run(strconv.Itoa(k), func(t *testing.T) {
			t.Parallel()
			if n := all(t, c.levels, c.slots, c.ahead, c.scripts...); n < 8 {
				t.Error(n)
			}
		})
	}
}

// A thief read a place; the owner's acts, and others, change it and change it back: the same slot is first again, but another one is behind it.
func TestPlaceThatIsBackAgain(t *testing.T) {
	for k, c := range []struct {
		levels, slots int
		ahead         string
		scripts       []string
	}{
		{1, 3, "5 4", []string{"- - 6 3", "1"}},  // the slot that was behind comes behind no more
		{1, 4, "5 4", []string{"- 4 - 4", "1"}},  // the very same
		{1, 4, "7 5", []string{"- 6 - 5", "1"}},  //
		{1, 3, "5 4", []string{"- 4", "1", "1"}}, // stolen by another one
		{1, 3, "5 4", []string{"4 3", "1", "1"}},
		{2, 3, "1@0 2@0 3@1", []string{"- 1", "1"}}, // lists that went up, and others that came instead
		{2, 3, "1@0 2@0 3@1", []string{"- 2@0", "2"}},
		{2, 3, "1@0 2@0 3@1", []string{"- 9@0", "2"}},
		{2, 5, "5@0 1 6@0 3@0 4@1", []string{"- 3@0 -", "2"}},
	} {
		t.Run(strconv.Itoa(k), func(t *testing.T) {
			t.Parallel()
			if n := all(t, c.levels, c.slots, c.ahead, c.scripts...); n < 8 {
				t.Error(n)
			}
		})
	}
	s := made(t, 1, 3)
	for slot, bound := range []int{5, 4, 3} {
		s.push(slot, bound)
	}
	s.hold("[[2 1 0]]")
	for n := range 3 { // so many Steps ahead of the changes
		slow := s.h.Steal(1)
		for range n {
			slow.Step()
		}
		for _, want := range []int{2, 1} {
			if slot := s.pop(); slot != want {
				t.Fatal(slot)
			}
		}
		s.push(2, 3)
		s.hold("[[2 0]]")
		s.run(slow)
		if slow.Slot() != 2 {
			t.Fatal(slow.Slot())
		}
		s.hold("[[0]]")
		s.push(1, 4)
		s.push(2, 3)
		s.hold("[[2 1 0]]")
	}
}

// What the owner knew of a place is a slot that was stolen since, and has another bound by now.
func TestSlotThatHasAnotherBound(t *testing.T) {
	s := made(t, 2, 4)
	s.push(0, 1, 0)
	s.push(1, 7, 0)
	s.push(2, 5, 1)
	s.push(3, 4, 1)
	s.hold("[[0] [1] [3 2]]")
	s.steal(3)
	s.p.Keep(3, pool.Node{Bound: 100})
	for _, want := range []int{0, 2, 1, -1} {
		if slot := s.pop(); slot != want {
			t.Errorf("%d, not %d", slot, want)
		}
	}
	s.push(0, 1, 0)
	s.push(1, 7, 0)
	s.push(2, 8, 1)
	s.push(3, 4, 1)
	s.steal(3)
	s.p.Keep(3, pool.Node{Bound: -100})
	for _, want := range []int{0, 1, 2, -1} {
		if slot := s.pop(); slot != want {
			t.Errorf("%d, not %d", slot, want)
		}
	}
}

// The owner read which slots are first and second; both are stolen and come to other bounds, while the third one is there and the smallest.
func TestSlotsThatAreUsedForSomethingElse(t *testing.T) {
	for steps := range 6 {
		for _, bound := range []int{-100, 0, 100} {
			s := made(t, 2, 4)
			for slot, bound := range []int{3, 2, 1, 4} {
				s.push(slot, bound, 0)
			}
			s.hold("[[2 1 0] [3] []]")
			a := s.h.Pop()
			for k := 0; k < steps && !a.Over(); k++ {
				a.Step()
			}
			want := 0
			if len(a.Hand()) > 0 {
				want = 2
			}
			for len(s.h.Lists()[0]) > 1 {
				s.p.Keep(s.steal(1), pool.Node{Bound: bound})
			}
			if s.run(a); a.Slot() != want {
				t.Errorf("%d Steps ahead: %d, not %d", steps, a.Slot(), want)
			}
		}
	}
}

// A Steal ends even if each of its Steps is followed by acts of the owner that change its place; these end too, since no slot was stolen.
func TestStealThatIsHindered(t *testing.T) {
	s := made(t, 1, 2)
	s.push(0, 5)
	a := s.h.Steal(1)
	for k := 1; !a.Step(); k++ {
		if k == 100 {
			t.Fatal("not over within a hundred Steps")
		}
		s.pop()
		s.push(0, 5)
	}
	if slot := a.Slot(); slot >= 0 || len(a.Hand()) > 0 {
		t.Error(slot, a.Hand())
	}
	s.hold("[[0]]")
	if s.steal(1) != 0 {
		t.Error("nobody hinders it now")
	}
}

// Each Steal but one is hindered by all others: they begin at the same time, at a list that has enough for all.
func TestManyStealsAtOnce(t *testing.T) {
	for thieves := 1; thieves <= 15; thieves++ {
		scripts := append([]string{""}, slices.Repeat([]string{"1"}, thieves)...)
		c := gathered(t, 1, 20, strings.Repeat("5 ", 20), scripts...)
		for going := true; going; {
			going = false
			for who := range c.workers {
				going = c.step(who) || going
			}
		}
		if len(c.free) != thieves {
			t.Error(thieves, c.free)
		}
	}
}

// Long scripts of many workers, in orders that are drawn: of even chances, or with one worker that is rarely picked.
func TestManyOrders(t *testing.T) {
	r := rand.New(rand.NewSource(78))
	for round := range 200 {
		levels := 1 + round%6
		var scripts []string
		workers, keys := 1+r.Intn(16), 1+r.Intn(30)
		for who := range workers {
			var l []string
			for range 40 {
				word := strconv.Itoa(1 + r.Intn(1+r.Intn(1<<levels-1)))
				switch {
				case who == 0 && r.Intn(3) == 0:
					word = "-"
				case who == 0:
					word = fmt.Sprintf("%d@%d,%d", r.Intn(keys), r.Intn(32), r.Intn(32))
				}
				l = append(l, word)
			}
			scripts = append(scripts, strings.Join(l, " "))
		}
		scripts[0] += " " + scripts[0]
		var ahead []string
		for k := range r.Intn(80) {
			ahead = append(ahead, fmt.Sprintf("%d@%d", k, r.Intn(32)))
		}
		c := gathered(t, levels, 1+r.Intn(100), strings.Join(ahead, " "), scripts...)
		rare := r.Intn(workers)
		for going := true; going; {
			who := r.Intn(workers)
			if round%2 == 0 && who == rare && r.Intn(20) > 0 {
				continue
			}
			c.step(who)
			going = false
			for other := range workers {
				going = c.next(other) || going
			}
		}
	}
}
