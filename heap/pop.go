package heap

// pop removes the slot with the smallest key, and then lets the rest of its list sink to where no child has a smaller value: each such child's list, one by one, goes up to the place above it.
//
// As the owner knows of no place a greater value than it has, a place that is as the owner knows it, and whose value is the least one that the owner knows, has the least value of all. And a child that the owner knows to have no smaller value has none.
type pop struct {
	heap   *Heap
	place  int  // whose first slot is removed; then the one that the rest has sunk to
	below  int  // the slot behind the first one
	slot   int  // that was removed
	rest   spot // the list that sinks
	lifted bool // is the rest in hand? Otherwise it is at the place, or empty
	raised spot // the list that goes up
}

func (p *pop) fits() bool { return false }

func (p *pop) taken() int { return p.slot }

func (p *pop) hand() []int {
	var l []int
	if p.slot != none {
		l = append(l, p.slot)
	}
	if p.lifted {
		l = append(l, p.heap.chain(p.rest.slot)...)
	}
	return append(l, p.heap.chain(p.raised.slot)...)
}

func (p *pop) find() state {
	h := p.heap
	place := h.least()
	if place == 0 {
		return nil
	}
	h.look(place)
	if h.least() != place { // its first slot was stolen
		return p.find
	}
	p.place = place
	return p.lookBelow
}

func (p *pop) lookBelow() state {
	h := p.heap
	p.below, _ = h.mem.Get(h.behind(h.known[p.place].slot))
	return p.remove
}

func (p *pop) remove() state {
	h := p.heap
	first := h.known[p.place].slot
	if !h.swap(p.place, p.below) {
		return p.find
	}
	p.slot, h.in[first] = first, false
	return p.settle()
}

// settle begins with what is left at the place.
func (p *pop) settle() state {
	p.rest = p.heap.known[p.place]
	return p.sink()
}

// sink tells what the next step is.
func (p *pop) sink() state {
	h := p.heap
	smaller := less(h.known[h.lesserChild(p.place)], p.rest)
	switch {
	case smaller && (p.lifted || p.rest.slot == none):
		return p.raise
	case smaller:
		return p.lift
	case p.lifted:
		return p.lay
	}
	return nil
}

func (p *pop) lift() state {
	h := p.heap
	if !h.swap(p.place, none) {
		return p.lookAgain
	}
	p.lifted = true
	return p.raise
}

// lookAgain reads the place, since its first slot was stolen.
func (p *pop) lookAgain() state {
	p.heap.look(p.place)
	return p.settle()
}

func (p *pop) raise() state {
	h := p.heap
	child := h.lesserChild(p.place)
	list := h.known[child]
	if h.swap(child, none) {
		p.raised = list
		return func() state { return p.drop(child) }
	}
	return func() state { // its first slot was stolen
		h.look(child)
		return p.sink()
	}
}

// drop puts the raised list down at the place, and goes on at the child that had it.
func (p *pop) drop(child int) state {
	p.heap.put(p.place, p.raised.slot)
	p.raised.slot = none
	p.place = child
	return p.sink()
}

func (p *pop) lay() state {
	p.heap.put(p.place, p.rest.slot)
	p.lifted = false
	return nil
}
