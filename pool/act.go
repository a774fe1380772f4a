package pool

import (
	"slices"

	"kurgan/cell"
)

// phase is what an act does next.
type phase int

const (
	claim phase = iota // a Give sees whether there is anything to give
	look               // do without the shared stack, or read its top
	link               // a Take reads what is below the top, a Give writes that the top is to be below its slot
	swap               // put another top, if it wasn't changed since it was read
	over
)

// Act is what a worker is about.
type Act struct {
	pool   *Pool
	worker int
	gives  bool
	next   phase
	slot   int // that is given, or taken, or on top; -1: none
	top    int // what was read as the top
	below  int // the slot below the top
}

// Take begins to take a slot; Give begins to give one back.
func (p *Pool) Take(worker int) *Act {
	if !p.employs(worker) {
		return nil
	}
	return &Act{pool: p, worker: worker, next: look, slot: -1}
}

func (p *Pool) Give(worker, slot int) *Act {
	if !p.employs(worker) || !p.has(slot) {
		return nil
	}
	return &Act{pool: p, worker: worker, gives: true, next: claim, slot: slot}
}

// Step goes on, by one step at most; is it over?
func (a *Act) Step() bool {
	switch {
	case a.Over():
	case a.gives:
		a.give()
	default:
		a.take()
	}
	return a.Over()
}

// Over: is it? Slot: the one that was taken, or given; -1: none.
func (a *Act) Over() bool { return !a.begun() || a.next == over }

func (a *Act) Slot() int {
	if !a.begun() || a.next != over {
		return -1
	}
	return a.slot
}

// begun is false for an act that neither Take nor Give began.
func (a *Act) begun() bool { return a != nil && a.pool != nil }

func (a *Act) take() {
	p := a.pool
	switch a.next {
	case look:
		if own := p.own[a.worker]; len(own) > 0 {
			a.slot, p.own[a.worker] = own[0], own[1:]
			a.taken()
			return
		}
		a.readTop()
		if _, a.slot = cell.Unpack(a.top); !p.has(a.slot) {
			a.slot, a.next = -1, over
		}
	case link:
		a.below, _ = p.mem.Get(p.link(a.slot)) // no error: New saw that all cells are there
		a.next = swap
	case swap:
		if a.swapTop(a.below) {
			a.taken()
		}
	}
}

func (a *Act) taken() {
	a.pool.held[a.slot] = true
	a.next = over
}

func (a *Act) give() {
	p := a.pool
	switch a.next {
	case claim:
		if !p.held[a.slot] { // it is free, or another act gives it: here it would come to a second place
			a.next = over
			return
		}
		p.held[a.slot] = false
		fallthrough
	case look:
		if own := p.own[a.worker]; len(own) < mostOwn {
			p.own[a.worker] = slices.Insert(own, 0, a.slot)
			a.next = over
			return
		}
		a.readTop()
	case link:
		_, top := cell.Unpack(a.top)
		p.mem.Set(p.link(a.slot), top)
		a.next = swap
	case swap:
		if a.swapTop(a.slot) {
			a.next = over
		}
	}
}

func (a *Act) readTop() {
	a.top, _ = a.pool.mem.Get(a.pool.base)
	a.next = link
}

// swapTop puts another slot on top; if it can't, since another act did so, the act looks again.
func (a *Act) swapTop(slot int) bool {
	done, _ := a.pool.mem.Cas(a.pool.base, a.top, cell.Up(a.top, slot))
	a.next = look
	return done
}
