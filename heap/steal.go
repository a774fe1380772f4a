package heap

import "kurgan/cell"

// mostTries bounds how often a Steal tries, in three Steps each: otherwise the owner's acts could keep it from its end for ever.
const mostTries = 33

// steal removes the first slot of a place. It asks the memory alone, not what the owner knows.
type steal struct {
	heap  *Heap
	place int
	tries int  // that failed
	head  spot // what was read at the place
	below int  // the slot behind the first one
	slot  int  // that was removed
}

func (s *steal) fits() bool { return false }

func (s *steal) taken() int { return s.slot }

func (s *steal) hand() []int {
	if s.slot == none {
		return nil
	}
	return []int{s.slot}
}

func (s *steal) look() state {
	h := s.heap
	n, _ := h.mem.Get(h.cellOf(s.place))
	s.head = h.spotOf(n)
	if s.head.slot == none {
		return nil
	}
	return s.lookBelow
}

func (s *steal) lookBelow() state {
	h := s.heap
	s.below, _ = h.mem.Get(h.behind(s.head.slot))
	return s.remove
}

func (s *steal) remove() state {
	h := s.heap
	if done, _ := h.mem.Cas(h.cellOf(s.place), s.head.packed, cell.Up(s.head.packed, s.below)); done {
		s.slot, h.in[s.head.slot] = s.head.slot, false
		return nil
	}
	s.tries++
	if s.tries == mostTries {
		return nil
	}
	return s.look
}
