package heap

// Act is what a worker is about.
type Act struct {
	job  job
	next state
}

// job is what acts of one kind do.
type job interface {
	fits() bool  // did it put its slot in?
	taken() int  // the slot that it removed
	hand() []int // the slots that it holds
}

// state makes at most one step of the memory, and answers what the next Step is to do; nil: the act is over.
type state func() state

// Push begins to put a slot in; Pop to take the least one out: both its owner's; Steal, another one's, to take one from a place.
func (h *Heap) Push(slot int, draws []int) *Act {
	if h == nil || !h.has(slot) {
		return nil
	}
	p := &push{heap: h, slot: slot, leaves: h.leaves(draws), in: h.in[slot]}
	if p.in { // put in once more, it would come to two places
		return &Act{job: p}
	}
	return &Act{p, p.tryLeaf}
}

func (h *Heap) Pop() *Act {
	if h == nil {
		return nil
	}
	p := &pop{heap: h, slot: none, raised: spot{slot: none}}
	return &Act{p, p.find}
}

func (h *Heap) Steal(place int) *Act {
	if place < 1 || place > h.Places() {
		return nil
	}
	s := &steal{heap: h, place: place, slot: none}
	return &Act{s, s.look}
}

// Step goes on, by one step at most; is it over?
func (a *Act) Step() bool {
	if !a.Over() {
		a.next = a.next()
	}
	return a.Over()
}

// Over: is it? Slot: the one that was taken out; -1: none. Fits: was there a place?
func (a *Act) Over() bool { return a == nil || a.next == nil }

func (a *Act) Slot() int {
	if !a.begun() || !a.Over() {
		return none
	}
	return a.job.taken()
}

func (a *Act) Fits() bool { return a.begun() && a.Over() && a.job.fits() }

// begun is false for an act that no heap began.
func (a *Act) begun() bool { return a != nil && a.job != nil }

// Hand: the slots that an act holds.
func (a *Act) Hand() []int {
	if !a.begun() {
		return nil
	}
	return a.job.hand()
}
