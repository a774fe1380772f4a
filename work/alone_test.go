package work_test

import (
	"math/rand"
	"slices"
	"testing"

	"kurgan/dive"
	"kurgan/kernel"
	"kurgan/log"
	"kurgan/mound"
	"kurgan/value"
)

// plan is the chapter's search by one worker without draws, told in one go: its queue is a mound, and it may use so many slots.
type plan struct {
	k     *kernel.Kernel
	queue *mound.Mound
	paths [][]int // of the items of the queue, by their Ids
	leaf  int     // the leftmost one
	free  int
	least int
	met   []log.Record
	took  map[string]int // how often which of the ways was taken
}

func (p *plan) add(kind int, path []int) { p.met = append(p.met, log.Record{Kind: kind, Path: path}) }

func (p *plan) kindOf(path []int) (kind, bound int) {
	bound, _ = p.k.Bound(path)
	switch {
	case bound >= p.least:
		return dive.Pruned, bound
	case len(path) == p.k.Depth():
		return dive.Leaf, bound
	}
	return dive.Branch, bound
}

func (p *plan) kids(path []int) [][]int {
	var l [][]int
	numbers, _ := p.k.Kids(path)
	for _, n := range numbers {
		l = append(l, append(slices.Clone(path), n))
	}
	return l
}

// meet adds what has no Kids.
func (p *plan) meet(path []int) bool {
	kind, bound := p.kindOf(path)
	if kind == dive.Branch {
		return false
	}
	p.add(kind, path)
	if kind == dive.Leaf {
		p.least = bound
	}
	return true
}

func (p *plan) inPlace(path []int) {
	if p.meet(path) {
		return
	}
	p.add(dive.Branch, path)
	for _, kid := range p.kids(path) {
		p.inPlace(kid)
	}
}

// push: is there a slot, and does it fit?
func (p *plan) push(path []int) bool {
	if p.free == 0 {
		p.took["no slot"]++
		return false
	}
	bound, _ := p.k.Bound(path)
	if l := p.queue.Lists()[p.leaf]; len(l) > 0 && l[0].Key < bound {
		p.took["no place"]++
		return false
	}
	p.took["queue"]++
	p.free--
	p.queue.Insert(mound.Item{Key: bound, Id: len(p.paths)}, nil)
	p.paths = append(p.paths, path)
	return true
}

func (p *plan) process(path []int) {
	if p.meet(path) {
		return
	}
	p.add(dive.Branch, path)
	kids := p.kids(path)
	for at, kid := range kids {
		if p.meet(kid) || p.push(kid) {
			continue
		}
		for _, other := range kids[at:] {
			p.inPlace(other)
		}
		return
	}
}

func (p *plan) run() {
	p.push(nil)
	for {
		x, there := p.queue.Pop()
		if !there {
			return
		}
		p.process(p.paths[x.Id])
		p.free++
	}
}

// planned is what one worker meets, in the order in which it meets it.
func planned(s *stand, c size) *plan {
	q, _ := mound.New(c.levels)
	cost, _ := value.Cost(s.i, value.Plain(s.i))
	p := &plan{k: s.k, queue: q, leaf: 1<<(c.levels-1) - 1, free: c.slots, least: cost, took: map[string]int{}}
	p.run()
	return p
}

// One worker alone, with few and many slots and places: it meets what the chapter says, in its order.
func TestAlone(t *testing.T) {
	r := rand.New(rand.NewSource(262))
	took := map[string]int{}
	for round := range 600 {
		kind, top := 1+round%3, []int{2, 9, 1000}[r.Intn(3)]
		i := drawn(r, kind, 1+r.Intn([]int{0, 8, 5, 6}[kind]), top)
		c := size{1, []int{1, 2, 3, 5, 9, 60}[r.Intn(6)], []int{1, 1, 2, 3, 6}[r.Intn(5)]}
		s := built(t, i, c, nil)
		p := planned(s, c)
		s.alone(0)
		s.ended()
		if got := s.workers[0].Log().All(); !slices.EqualFunc(got, p.met, same) {
			s.fail("met", got, "not", p.met)
		}
		if len(s.told) > s.most() {
			s.fail("so many Steps:", len(s.told))
		}
		for way, n := range p.took {
			took[way] += n
		}
	}
	if took["no slot"] < 50 || took["no place"] < 50 || took["queue"] < 500 {
		t.Error(took)
	}
}

// With one slot, all Kids of the empty prefix are searched in place, each of whose events comes with one step that looks up the lowest cost.
func TestOneSlot(t *testing.T) {
	r := rand.New(rand.NewSource(263))
	for kind := 1; kind <= 3; kind++ {
		i := drawn(r, kind, 6, 50)
		s := built(t, i, size{1, 1, 3}, nil)
		most, queued := 0, 0
		for s.step(0) {
			most = max(most, s.workers[0].Frames())
			if s.workers[0].Log().Len() > 0 {
				queued += len(slices.Concat(s.heaps[0].Lists()...))
			}
		}
		s.ended()
		if most < 2 || queued > 0 {
			t.Error(kind, most, queued)
		}
	}
}
