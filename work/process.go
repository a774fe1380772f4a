package work

import (
	"slices"

	"kurgan/api"
	"kurgan/dive"
	"kurgan/pool"
)

const draws = 4 // leaves that a Push considers

// look makes one step.
func (w *Worker) look() int {
	w.least = w.shared.Inc.Look()
	return w.least
}

// process begins with the prefix of the worker's slot.
func (w *Worker) process() state {
	w.look()
	w.path = w.shared.Pool.Node(w.slot).Path
	bound, e := w.shared.Kernel.Bound(w.path)
	if e != api.OK { // somebody else stored it: it is no prefix
		return w.finish()
	}
	kind := w.kindOf(w.path, bound)
	w.log.Add(kind, w.path)
	switch kind {
	case dive.Leaf:
		return w.offer(w.path, bound, w.finish)
	case dive.Branch:
		w.kids, _ = w.shared.Kernel.Kids(w.path) // no error, here and below: it is a prefix
		return w.consider()
	}
	return w.finish()
}

// kindOf is what a prefix is, by the lowest cost that the worker knows.
func (w *Worker) kindOf(p []int, bound int) int {
	switch {
	case bound >= w.least:
		return dive.Pruned
	case len(p) == w.shared.Kernel.Depth():
		return dive.Leaf
	}
	return dive.Branch
}

// offer goes through the offer of a complete prefix that costs less than what the worker knew. Taken or not, no lowest cost is above that afterwards.
func (w *Worker) offer(p []int, cost int, after then) state {
	w.least = cost
	x, _ := w.shared.Kernel.Answer(p)
	return through(w.shared.Inc.Offer(w.me, x, cost), after)
}

// consider goes on with the first of the Kids that are left, of which one that is to be put into the heap stays till it is there.
func (w *Worker) consider() state {
	for len(w.kids) > 0 {
		kid := w.firstKid()
		bound, _ := w.shared.Kernel.Bound(kid)
		kind := w.kindOf(kid, bound)
		if kind == dive.Branch {
			return w.take(pool.Node{Path: kid, Bound: bound})
		}
		w.kids = w.kids[1:]
		w.log.Add(kind, kid)
		if kind == dive.Leaf {
			return w.offer(kid, bound, w.consider)
		}
	}
	return w.finish()
}

func (w *Worker) firstKid() []int { return append(slices.Clone(w.path), w.kids[0]) }

// take takes a slot for a Kid.
func (w *Worker) take(kid pool.Node) state {
	a := w.shared.Pool.Take(w.me)
	return through(a, func() state {
		w.extra = a.Slot()
		if w.extra == none {
			return w.searchKids()
		}
		w.shared.Pool.Keep(w.extra, kid)
		return w.open
	})
}

// open counts the Kid ahead of its Push, so that no more prefixes are in heaps than are open.
func (w *Worker) open() state {
	w.shared.Count.More(1)
	return w.push()
}

func (w *Worker) push() state {
	slot := w.extra
	a := w.own().Push(slot, w.leaves())
	w.queue, w.extra = a, none
	return through(a, func() state {
		w.queue = nil
		if !a.Fits() {
			w.extra = slot
			return w.giveBack(&w.extra, w.searchKids)
		}
		w.kids = w.kids[1:]
		return w.consider()
	})
}

// leaves are drawn for a Push.
func (w *Worker) leaves() []int {
	var l []int
	for range draws {
		l = append(l, w.shared.Tape.Draw((w.own().Places()+1)/2))
	}
	return l
}

// searchKids searches the first of the Kids that are left in place, and then the others.
func (w *Worker) searchKids() state {
	if len(w.kids) == 0 {
		return w.finish()
	}
	w.dive, _ = dive.New(w.shared.Kernel, w.firstKid())
	w.kids = w.kids[1:]
	return w.search
}

func (w *Worker) search() state {
	met, _ := w.dive.Step(w.look())
	w.log.Add(met.Kind, met.Path)
	if met.Kind == dive.Leaf {
		return w.offer(met.Path, met.Cost, w.searchOn)
	}
	return w.searchOn()
}

func (w *Worker) searchOn() state {
	if w.dive.Over() {
		return w.searchKids()
	}
	return w.search
}

// finish ends the processing of the worker's slot.
func (w *Worker) finish() state { return w.giveBack(&w.slot, w.seek) }

// giveBack gives back one of the worker's slots. Its prefix is open till the slot is free, so that all slots are when nothing is open.
func (w *Worker) giveBack(slot *int, after then) state {
	return through(w.shared.Pool.Give(w.me, *slot), func() state {
		*slot = none
		return func() state {
			w.shared.Count.More(-1)
			return after()
		}
	})
}
