package heap

import "slices"

const mostDraws = 4 // draws that select a leaf

// push puts a slot in, at the first place that takes it on the path to a leaf that does.
type push struct {
	heap   *Heap
	slot   int
	in     bool
	leaves []int // that may be tried, the next one first
	path   []int // places that may be tried, on the way to the first of leaves
}

func (p *push) fits() bool { return p.in }

func (p *push) taken() int { return none }

func (p *push) hand() []int {
	if p.in {
		return nil
	}
	return []int{p.slot}
}

// leaves are those that draws select.
func (h *Heap) leaves(draws []int) []int {
	leftmost := len(h.known) / 2 // and there are so many of them
	if len(draws) == 0 {
		return []int{leftmost}
	}
	var l []int
	for _, draw := range draws[:min(len(draws), mostDraws)] {
		l = append(l, leftmost+int(uint64(draw)%uint64(leftmost)))
	}
	return l
}

// pathTo are the places from the root to a leaf.
func pathTo(leaf int) []int {
	var l []int
	for place := leaf; place > 0; place /= 2 {
		l = append(l, place)
	}
	slices.Reverse(l)
	return l
}

func (p *push) tryLeaf() state {
	if p.takes(p.leaves[0]) {
		p.path = pathTo(p.leaves[0])
		return p.tryPlace
	}
	return p.nextLeaf()
}

// takes: is a place's value, as it is read now, not less than the slot's key? Then that stays so, since others make it greater at most.
func (p *push) takes(place int) bool {
	h := p.heap
	h.look(place)
	return !less(h.known[place], spot{0, p.slot, h.pool.Bound(p.slot)})
}

func (p *push) nextLeaf() state {
	p.leaves = p.leaves[1:]
	if len(p.leaves) == 0 {
		return nil
	}
	return p.tryLeaf
}

func (p *push) tryPlace() state {
	if p.takes(p.path[0]) {
		return p.tie
	}
	p.path = p.path[1:]
	if len(p.path) == 0 { // somebody else wrote to the leaf's cell
		return p.nextLeaf()
	}
	return p.tryPlace
}

// tie ties the place's list to the slot.
func (p *push) tie() state {
	h := p.heap
	h.mem.Set(h.behind(p.slot), h.known[p.path[0]].slot)
	return p.insert
}

// insert begins again if the list's first slot was stolen, since places above may take the slot as well by now.
func (p *push) insert() state {
	h := p.heap
	if !h.swap(p.path[0], p.slot) {
		return p.tryLeaf
	}
	p.in, h.in[p.slot] = true, true
	return nil
}
