package heap_test

import (
	"fmt"
	"math"
	"math/rand"
	"slices"
	"testing"

	"kurgan/api"
	"kurgan/cell"
	"kurgan/heap"
	"kurgan/mound"
	"kurgan/pool"
)

// stand is a heap in a memory of its own, whose pool is in another one.
type stand struct {
	t *testing.T
	m *cell.Mem
	p *pool.Pool
	h *heap.Heap
}

func memory(t *testing.T, n int) *cell.Mem {
	t.Helper()
	m, e := cell.New(n)
	if e != api.OK {
		t.Fatalf("a memory of %d cells: %d", n, e)
	}
	return m
}

func slotsOf(t *testing.T, slots int) *pool.Pool {
	t.Helper()
	p, e := pool.New(memory(t, pool.Cells(slots)), 0, slots, 16)
	if e != api.OK {
		t.Fatalf("a pool of %d slots: %d", slots, e)
	}
	return p
}

func made(t *testing.T, levels, slots int) *stand {
	t.Helper()
	m, p := memory(t, heap.Cells(levels, slots)), slotsOf(t, slots)
	h, e := heap.New(m, 0, levels, p)
	if e != api.OK || h == nil {
		t.Fatalf("New of %d levels and %d slots: %v, %d", levels, slots, h, e)
	}
	return &stand{t, m, p, h}
}

// run steps an act that is alone until it is over, within a hundred Steps; it answers in how many.
func (s *stand) run(a *heap.Act) int {
	s.t.Helper()
	if a == nil {
		s.t.Fatal("no act")
	}
	for k := 1; k <= 100; k++ {
		before := s.m.Steps()
		done := a.Step()
		if made := s.m.Steps() - before; made < 0 || made > 1 || done != a.Over() {
			s.t.Fatalf("a Step made %d steps; over: %v, %v", made, done, a.Over())
		}
		if done {
			return k
		}
	}
	s.t.Fatal("not over within a hundred Steps")
	return 0
}

// push keeps a bound in a slot, and puts it in.
func (s *stand) push(slot, bound int, draws ...int) bool {
	s.t.Helper()
	s.p.Keep(slot, pool.Node{Bound: bound})
	a := s.h.Push(slot, draws)
	s.run(a)
	return a.Fits()
}

func (s *stand) pop() int {
	s.t.Helper()
	a := s.h.Pop()
	s.run(a)
	return a.Slot()
}

func (s *stand) steal(place int) int {
	s.t.Helper()
	a := s.h.Steal(place)
	s.run(a)
	return a.Slot()
}

// lists: those of all places, as text.
func (s *stand) lists() string { return fmt.Sprint(s.h.Lists()) }

func (s *stand) hold(want string) {
	s.t.Helper()
	if got := s.lists(); got != want {
		s.t.Fatalf("%s, not %s", got, want)
	}
}

func TestCells(t *testing.T) {
	for _, c := range [][3]int{
		{0, 1, 0}, {1, 1, 2}, {2, 1, 4}, {3, 1, 8}, {4, 1, 16}, {5, 1, 32}, {6, 1, 64}, {7, 1, 0},
		{1, 0, 0}, {6, 0, 0}, {1, 4096, 4097}, {6, 4096, 4159}, {1, 4097, 0}, {6, 4097, 0}, {6, 4095, 4158},
		{0, 0, 0}, {7, 4097, 0}, {-1, 5, 0}, {3, -1, 0}, {64, 5, 0},
		{math.MinInt, 5, 0}, {math.MaxInt, 5, 0}, {3, math.MinInt, 0}, {3, math.MaxInt, 0}, {math.MaxInt, math.MaxInt, 0},
	} {
		if n := heap.Cells(c[0], c[1]); n != c[2] {
			t.Errorf("Cells(%d, %d) = %d, not %d", c[0], c[1], n, c[2])
		}
	}
}

func TestNew(t *testing.T) {
	for levels := 1; levels <= 6; levels++ {
		for _, slots := range []int{1, 2, 4096} {
			s := made(t, levels, slots)
			places := []int{1, 3, 7, 15, 31, 63}[levels-1]
			lists := s.h.Lists()
			if s.h.Places() != places || len(lists) != places {
				t.Fatal(levels, s.h.Places(), lists)
			}
			for _, l := range lists {
				if len(l) != 0 {
					t.Fatal(lists)
				}
			}
			if slot := s.pop(); slot != -1 {
				t.Fatal(slot)
			}
			for place := 1; place <= places; place++ {
				if slot := s.steal(place); slot != -1 {
					t.Fatal(place, slot)
				}
			}
		}
	}
}

func TestNewOfWrongNumbers(t *testing.T) {
	p := slotsOf(t, 5)
	wrong := func(m *cell.Mem, base, levels int, p *pool.Pool) {
		t.Helper()
		before := m.Steps()
		if h, e := heap.New(m, base, levels, p); h != nil || e != api.ErrArg || m.Steps() != before {
			t.Errorf("New(%d cells, %d, %d, %d slots) = %v, %d", m.Size(), base, levels, p.Slots(), h, e)
		}
	}
	m := memory(t, 100)
	for _, levels := range []int{math.MinInt, -1, 0, 7, 64, math.MaxInt} {
		wrong(m, 0, levels, p)
	}
	for _, base := range []int{math.MinInt, -100, -1, 100 - 7, 99, 100, 101, math.MaxInt - 5, math.MaxInt} {
		wrong(m, base, 2, p)
	}
	wrong(nil, 0, 2, p)
	wrong(m, 0, 2, nil)
	wrong(nil, 0, 2, nil)
	wrong(nil, -1, 0, nil)
	wrong(memory(t, 0), 0, 1, p)
	wrong(memory(t, 5), 0, 1, p)
	wrong(memory(t, 67), 0, 6, p)
	wrong(memory(t, 6), -1, 1, p)
	if !slices.Equal(m.All(), make([]int, 100)) {
		t.Error("a call that answered an error changed the memory")
	}
	for levels, cells := range map[int]int{1: 6, 2: 8, 6: 68} {
		if h, e := heap.New(memory(t, cells), 0, levels, p); h == nil || e != api.OK {
			t.Error(levels, e)
		}
		if h, e := heap.New(memory(t, cells+30), 30, levels, p); h == nil || e != api.OK {
			t.Error(levels, e)
		}
	}
}

// A heap makes steps of its own cells alone, whatever they had before, and wherever they begin.
func TestCellsOfAHeap(t *testing.T) {
	const others = 5
	cells := heap.Cells(2, 4)
	for _, junk := range []int{0, 1, 3, -1, 1<<32 + 2, math.MaxInt, math.MinInt} {
		for base := range others + 1 {
			m := memory(t, others+cells)
			for i := range m.Size() {
				m.Set(i, junk)
			}
			p := slotsOf(t, 4)
			h, e := heap.New(m, base, 2, p)
			if e != api.OK {
				t.Fatal(base, e)
			}
			s := &stand{t, m, p, h}
			s.hold("[[] [] []]")
			for k := range 4 {
				if !s.push(k, k, 1) {
					t.Fatal(k)
				}
				s.steal(1 + k%3)
				s.push(k, k, 0)
				s.pop()
			}
			for i, n := range m.All() {
				if (i < base || i >= base+cells) && n != junk {
					t.Fatalf("base %d: cell %d was changed from %d to %d", base, i, junk, n)
				}
			}
		}
	}
}

// Two heaps over one pool, in one memory: a slot goes from one to the other.
func TestTwoHeaps(t *testing.T) {
	p := slotsOf(t, 3)
	n := heap.Cells(2, 3)
	m := memory(t, 2*n)
	a, _ := heap.New(m, 0, 2, p)
	b, _ := heap.New(m, n, 2, p)
	s, o := &stand{t, m, p, a}, &stand{t, m, p, b}
	for slot := range 3 {
		s.push(slot, 9-slot)
	}
	s.hold("[[2 1 0] [] []]")
	o.hold("[[] [] []]")
	o.push(s.steal(1), 1)
	o.push(s.steal(1), 4)
	s.hold("[[0] [] []]")
	o.hold("[[2] [1] []]")
	s.push(o.steal(2), 9)
	s.hold("[[1 0] [] []]")
	o.hold("[[2] [] []]")
}

func TestExample(t *testing.T) {
	s := made(t, 3, 2)
	if !s.push(0, 5) || !s.push(1, 3) {
		t.Error("both fit")
	}
	if a, b, c := s.pop(), s.pop(), s.pop(); a != 1 || b != 0 || c != -1 {
		t.Error(a, b, c)
	}
}

func TestSlotsAndPlacesThatAreNotThere(t *testing.T) {
	for levels := 1; levels <= 6; levels++ {
		s := made(t, levels, 4)
		for _, slot := range []int{math.MinInt, -1, 4, 5, 4096, math.MaxInt} {
			if a := s.h.Push(slot, []int{1}); a != nil {
				t.Error(slot, a)
			}
		}
		for slot := range 4 {
			if s.h.Push(slot, nil) == nil {
				t.Error(slot)
			}
		}
		places := s.h.Places()
		for _, place := range []int{math.MinInt, -1, 0, places + 1, places + 2, 64, math.MaxInt} {
			if a := s.h.Steal(place); a != nil {
				t.Error(place, a)
			}
		}
		for place := 1; place <= places; place++ {
			if s.h.Steal(place) == nil {
				t.Error(place)
			}
		}
		if s.h.Pop() == nil {
			t.Error("Pop")
		}
	}
}

func TestNilHeap(t *testing.T) {
	var h *heap.Heap
	for _, n := range []int{math.MinInt, -1, 0, 1, 2, math.MaxInt} {
		if h.Push(n, nil) != nil || h.Push(n, []int{1, 2}) != nil || h.Steal(n) != nil {
			t.Error(n)
		}
	}
	if h.Pop() != nil || h.Places() != 0 || len(h.Lists()) != 0 {
		t.Error(h.Pop(), h.Places(), h.Lists())
	}
	h = &heap.Heap{} // that New didn't make: it has nothing
	if h.Push(0, nil) != nil || h.Steal(1) != nil || h.Places() != 0 || len(h.Lists()) != 0 {
		t.Error(h.Places(), h.Lists())
	}
	if a := h.Pop(); a != nil && (!a.Step() || a.Slot() != -1) {
		t.Error(a.Slot())
	}
}

func TestNilAct(t *testing.T) {
	for _, a := range []*heap.Act{nil, {}} { // one that no heap began is over as well
		for range 3 {
			if !a.Over() || !a.Step() || a.Slot() != -1 || a.Fits() || len(a.Hand()) != 0 {
				t.Error(a.Over(), a.Slot(), a.Fits(), a.Hand())
			}
		}
	}
}

// acted steps an act, and holds what it tells ahead of, at and behind the end: what it has in hand until then, and at the end.
func (s *stand) acted(a *heap.Act, slot int, fits bool, hands ...[]int) {
	s.t.Helper()
	for k := 0; ; k++ {
		if k == 100 {
			s.t.Fatal("not over within a hundred Steps")
		}
		if a.Over() || a.Slot() != -1 || a.Fits() {
			s.t.Fatal("ahead of the end:", a.Over(), a.Slot(), a.Fits())
		}
		hand := a.Hand()
		if !slices.ContainsFunc(hands, func(l []int) bool { return slices.Equal(l, hand) }) || k == 0 && !slices.Equal(hand, hands[0]) {
			s.t.Fatal("ahead of the end, in hand:", hand, "not", hands)
		}
		if a.Step() {
			break
		}
	}
	steps, cells := s.m.Steps(), s.m.All()
	for range 3 {
		hand := a.Hand()
		if !a.Over() || a.Slot() != slot || a.Fits() != fits || !slices.Equal(hand, hands[len(hands)-1]) {
			s.t.Fatal("behind the end:", a.Over(), a.Slot(), a.Fits(), hand)
		}
		if !a.Step() || s.m.Steps() != steps || !slices.Equal(s.m.All(), cells) {
			s.t.Fatal("something was done behind the end")
		}
	}
}

func TestActs(t *testing.T) {
	s := made(t, 1, 3)
	before := s.m.Steps()
	s.h.Push(0, nil)
	s.h.Pop()
	s.h.Steal(1)
	if s.m.Steps() != before {
		t.Error("to begin is no step")
	}
	s.p.Keep(0, pool.Node{Bound: 5})
	s.p.Keep(1, pool.Node{Bound: 3})
	s.p.Keep(2, pool.Node{Bound: 4})
	s.acted(s.h.Push(0, nil), -1, true, []int{0}, nil)
	push := s.h.Push(1, []int{7})
	s.acted(push, -1, true, []int{1}, nil)
	s.acted(s.h.Push(2, nil), -1, false, []int{2}) // it doesn't fit: the worker still holds it
	s.hold("[[1 0]]")
	s.acted(s.h.Steal(1), 1, false, nil, []int{1})
	s.hold("[[0]]")
	if !push.Fits() || len(push.Hand()) != 0 {
		t.Error("a Push that is over tells something else, since its slot was stolen")
	}
	s.acted(s.h.Push(1, nil), -1, true, []int{1}, nil)
	s.acted(s.h.Pop(), 1, false, nil, []int{1})
	s.acted(s.h.Push(2, nil), -1, true, []int{2}, nil)
	s.hold("[[2 0]]")
	s.acted(s.h.Pop(), 2, false, nil, []int{2})
	s.acted(s.h.Pop(), 0, false, nil, []int{0})
	s.acted(s.h.Pop(), -1, false, nil)
	s.acted(s.h.Steal(1), -1, false, nil)
	s.hold("[[]]")
}

// What a Pop has in hand while lists change their places: each slot is either there or in a list.
func TestHandOfAPop(t *testing.T) {
	s := made(t, 3, 9)
	for slot, bound := range []int{1, 2, 3, 4, 5, 6, 7} {
		s.push(slot, bound, slot%4)
	}
	s.push(7, 1)
	s.push(8, 1)
	for left := 9; left > 0; left-- {
		a, most := s.h.Pop(), 0
		for done := false; !done; {
			done = a.Step()
			all := a.Hand()
			most = max(most, len(all))
			for _, l := range s.h.Lists() {
				all = append(all, l...)
			}
			slices.Sort(all)
			if len(slices.Compact(all)) != left || len(all) != left {
				t.Fatal(all, a.Hand(), s.lists())
			}
			if done && !slices.Equal(a.Hand(), []int{a.Slot()}) {
				t.Fatal(a.Hand(), a.Slot())
			}
		}
		if left == 7 && most < 2 { // the root has one slot, both its children have
			t.Error("lists changed their places unseen:", s.lists())
		}
	}
}

// What is put in twice would come to two places: it is in, and stays where it is.
func TestPushOfASlotThatIsIn(t *testing.T) {
	s := made(t, 2, 3)
	s.push(0, 5)
	s.push(1, 6)
	before := s.lists()
	for slot := range 2 {
		a := s.h.Push(slot, nil)
		if !a.Step() || !a.Fits() || len(a.Hand()) != 0 {
			t.Error(a.Fits(), a.Hand())
		}
		s.hold(before)
	}
	for _, want := range []int{0, 1, -1} {
		if slot := s.pop(); slot != want {
			t.Error(slot)
		}
	}
	s.push(1, 6)
	s.steal(1)
	if !s.push(1, 7) {
		t.Error("what was stolen may come in again")
	}
	s.hold("[[1] [] []]")
}

// filled has three levels with the bounds 10 to 70 at the places 1 to 7, of the slots 1 to 7.
func filled(t *testing.T) *stand {
	t.Helper()
	s := made(t, 3, 12)
	for k, leaf := range []int{0, 0, 2, 0, 1, 2, 3} {
		if !s.push(k+1, 10*(k+1), leaf) {
			t.Fatal(k)
		}
	}
	s.hold("[[1] [2] [3] [4] [5] [6] [7]]")
	return s
}

// place is where a slot is; 0: nowhere.
func (s *stand) place(slot int) int {
	for k, l := range s.h.Lists() {
		if slices.Contains(l, slot) {
			return k + 1
		}
	}
	return 0
}

func TestPlaceOfAPush(t *testing.T) {
	for _, c := range []struct {
		bound, want int
		draws       []int
	}{
		{45, 0, nil}, // the leftmost leaf has 40, and no other one is considered
		{40, 4, nil}, // equal
		{45, 5, []int{1}},
		{45, 0, []int{0}},
		{45, 5, []int{0, 1}},
		{55, 6, []int{0, 1, 2}},
		{65, 7, []int{0, 1, 2, 3}},
		{65, 7, []int{3, 2, 1, 0}},
		{65, 0, []int{0, 1, 2, 1, 3}}, // a fifth one is not considered
		{65, 0, []int{0, 1, 2, 2, 3, 3}},
		{71, 0, []int{0, 1, 2, 3}},
		{45, 6, []int{0, 2, 1, 3}}, // the first one that takes it
		{65, 7, []int{-1}},         // 2^64 - 1
		{65, 0, []int{-2}},
		{45, 5, []int{math.MinInt + 1}},
		{65, 7, []int{math.MaxInt}},
		{45, 5, []int{400001}},
		{35, 4, nil},
		{25, 3, []int{3}}, // on the path to the leaf the first place that takes it
		{25, 3, []int{2}},
		{30, 3, []int{2}},
		{31, 6, []int{2}},
		{20, 2, nil},
		{21, 5, []int{1}},
		{10, 1, []int{2}},
		{11, 2, []int{1}},
		{11, 3, []int{2}},
		{math.MinInt, 1, []int{1}},
		{math.MaxInt, 0, []int{0, 1, 2, 3}},
	} {
		s := filled(t)
		before := s.lists()
		fits := s.push(8, c.bound, c.draws...)
		if got := s.place(8); got != c.want || fits != (c.want > 0) {
			t.Errorf("%d with %v came to %d, not to %d; fits: %v", c.bound, c.draws, got, c.want, fits)
		}
		if c.want > 0 {
			if l := s.h.Lists()[c.want-1]; !slices.Equal(l, []int{8, c.want}) {
				t.Error(l)
			}
		} else if s.lists() != before {
			t.Error("what doesn't fit changed something:", s.lists())
		}
	}
}

// Leaves whose slots were stolen take all; and a slot may then stay above others that are smaller.
func TestPushBehindSteals(t *testing.T) {
	s := filled(t)
	s.steal(1)
	s.steal(4)
	if !s.push(8, 80) { // the root has nothing now
		t.Error("the leftmost leaf is empty")
	}
	s.hold("[[8] [2] [3] [] [5] [6] [7]]")
	if !s.push(9, 85) {
		t.Error("the leftmost leaf is empty")
	}
	s.hold("[[8] [2] [3] [9] [5] [6] [7]]")
	for _, want := range []int{2, 3, 5, 6, 7, 8, 9, -1} {
		if slot := s.pop(); slot != want {
			t.Errorf("%d, not %d", slot, want)
		}
	}
}

// A Steal takes the first slot of its place alone.
func TestSteals(t *testing.T) {
	s := filled(t)
	s.push(8, 35)
	s.push(9, 34)
	s.hold("[[1] [2] [3] [9 8 4] [5] [6] [7]]")
	for _, want := range []int{9, 8, 4, -1, -1} {
		if slot := s.steal(4); slot != want {
			t.Errorf("%d, not %d", slot, want)
		}
	}
	for place := 1; place <= 7; place++ {
		want := place
		if place == 4 {
			want = -1
		}
		if slot := s.steal(place); slot != want {
			t.Errorf("%d, not %d", slot, want)
		}
	}
	s.hold("[[] [] [] [] [] [] []]")
}

// Long rows without Steals: the lists are those of a mound, at every moment between the acts, and so is what Pops remove.
func TestAsAMound(t *testing.T) {
	r := rand.New(rand.NewSource(74))
	numbers := []int{math.MinInt, math.MinInt + 1, -1, 0, 1, math.MaxInt - 1, math.MaxInt}
	for round := range 200 {
		levels, slots := 1+round%6, 1+r.Intn(100)
		s := made(t, levels, slots)
		m, _ := mound.New(levels)
		var free []int
		for slot := range slots {
			free = append(free, slot)
		}
		keys := []int{1, 3, 20, 1000}[r.Intn(4)]
		for range 300 {
			if r.Intn(8) < 2+round%3 || len(free) == 0 {
				x, ok := m.Pop()
				slot := s.pop()
				if ok != (slot >= 0) || ok && slot != x.Id {
					t.Fatal(slot, x, ok)
				}
				if ok {
					free = append(free, slot)
				}
			} else {
				k := r.Intn(len(free))
				x := mound.Item{Key: r.Intn(keys), Id: free[k]}
				if r.Intn(10) == 0 {
					x.Key = numbers[r.Intn(7)]
				}
				var draws []int
				for range r.Intn(6) {
					draws = append(draws, []int{r.Intn(32), -r.Intn(32), numbers[r.Intn(7)], r.Int()}[r.Intn(4)])
				}
				if s.push(x.Id, x.Key, draws...) {
					free = slices.Delete(free, k, k+1)
					m.Insert(x, draws)
				} else if takes(m, x.Key, draws) {
					t.Fatal(x, draws, "doesn't fit:", m.Lists())
				}
			}
			asMound(t, s, m)
		}
	}
}

// takes: has one of the leaves that draws select a value that is not less than a key?
func takes(m *mound.Mound, key int, draws []int) bool {
	lists := m.Lists()
	leaves := lists[len(lists)/2:]
	if len(draws) == 0 {
		draws = []int{0}
	}
	for _, draw := range draws[:min(len(draws), 4)] {
		l := leaves[uint64(draw)%uint64(len(leaves))]
		if len(l) == 0 || l[0].Key >= key {
			return true
		}
	}
	return false
}

func asMound(t *testing.T, s *stand, m *mound.Mound) {
	t.Helper()
	before := s.m.Steps()
	got, want := s.h.Lists(), m.Lists()
	for k, l := range want {
		var ids []int
		for _, x := range l {
			ids = append(ids, x.Id)
		}
		if !slices.Equal(got[k], ids) {
			t.Fatalf("at %d: %v, not %v", k+1, got, want)
		}
	}
	if s.m.Steps() != before {
		t.Fatal("Lists made a step")
	}
}

// Behind any Steals, a Pop that is alone removes the smallest one of all that are left, and one that removes none found none; each is over within a hundred Steps.
func TestPopsBehindSteals(t *testing.T) {
	r := rand.New(rand.NewSource(75))
	for round := range 300 {
		levels := 1 + round%6
		s := made(t, levels, 200)
		bounds, free := map[int]int{}, r.Perm(200)
		for range 400 {
			switch slot := -1; r.Intn(5) {
			case 0, 1:
				if len(free) == 0 {
					break
				}
				slot = free[0]
				bound := len(bounds) + r.Intn(100)
				if s.push(slot, bound, r.Int(), r.Int(), r.Int(), r.Int()) {
					bounds[slot], free = bound, free[1:]
				}
			case 2:
				slot = s.pop()
				if _, there := bounds[slot]; there != (slot >= 0) || slot < 0 && len(bounds) > 0 {
					t.Fatal(slot, bounds)
				}
				for _, bound := range bounds {
					if bound < bounds[slot] {
						t.Fatal(slot, "is not the smallest one:", bounds)
					}
				}
				if slot >= 0 {
					delete(bounds, slot)
					free = append([]int{slot}, free...)
				}
			default:
				place := 1 + r.Intn(1+r.Intn(s.h.Places()))
				l := s.h.Lists()[place-1]
				slot = s.steal(place)
				if slot < 0 != (len(l) == 0) || slot >= 0 && slot != l[0] {
					t.Fatal(slot, l)
				}
				if slot >= 0 {
					delete(bounds, slot)
					free = append([]int{slot}, free...)
				}
			}
		}
	}
}

// All 63 places were emptied, or their first slots stolen, without the owner: the Pop behind that has most to find out.
func TestStepsOfAct(t *testing.T) {
	r := rand.New(rand.NewSource(76))
	for round := range 200 {
		s := made(t, 6, 200)
		for slot := range 63 { // each to its own place, as the values rise level by level
			place := slot + 1
			leaf := place
			for leaf < 32 {
				leaf *= 2
			}
			if !s.push(slot, 10*place, leaf-32) || s.place(slot) != place {
				t.Fatal(slot, s.place(slot))
			}
		}
		slot := 63
		for place := 1; place <= 63; place++ { // and a second one, of about the same bound
			if round%2 == 1 || place > 40 && r.Intn(2) == 0 {
				continue
			}
			leaf := place
			for leaf < 32 {
				leaf = 2*leaf + r.Intn(2)
			}
			s.push(slot, 10*place-r.Intn(8), leaf-32)
			slot++
		}
		for place := 1; place <= 63; place++ {
			if round < 4 || r.Intn(20) > 0 {
				s.steal(place)
			}
		}
		last, n := math.MinInt, 0
		for _, l := range s.h.Lists() {
			n += len(l)
		}
		for ; n > 0; n-- { // stand.run counts the Steps
			slot := s.pop()
			if slot < 0 || s.p.Bound(slot) < last {
				t.Fatal(slot, last, s.lists())
			}
			last = s.p.Bound(slot)
		}
		if slot := s.pop(); slot != -1 {
			t.Fatal(slot)
		}
	}
}

// Draws are neither changed nor kept; what Lists and Hand return is nobody else's.
func TestMemoryOfItsOwn(t *testing.T) {
	s := filled(t)
	draws := []int{0, 3, 1, 2, -1, 5}
	s.p.Keep(8, pool.Node{Bound: 65})
	a := s.h.Push(8, draws[:2])
	if !slices.Equal(draws, []int{0, 3, 1, 2, -1, 5}) {
		t.Error(draws)
	}
	clear(draws)
	s.run(a)
	s.hold("[[1] [2] [3] [4] [5] [6] [8 7]]")
	push, pop := s.h.Push(9, nil), s.h.Pop()
	s.run(pop)
	before := s.lists()
	for range 2 {
		lists := s.h.Lists()
		for k, l := range lists {
			for i := range l[:cap(l)] {
				l[:cap(l)][i] = -7
			}
			lists[k] = append(l[:0], -8)
		}
		for _, l := range lists {
			if !slices.Equal(l, []int{-8}) {
				t.Error(l)
			}
		}
		for _, l := range [][]int{push.Hand(), pop.Hand()} {
			for i := range l[:cap(l)] {
				l[:cap(l)][i] = -7
			}
		}
		if !slices.Equal(push.Hand(), []int{9}) || !slices.Equal(pop.Hand(), []int{1}) || pop.Slot() != 1 {
			t.Error(push.Hand(), pop.Hand())
		}
		s.hold(before)
	}
	lists := s.h.Lists()
	s.pop()
	if fmt.Sprint(lists) != before {
		t.Error("an act changed what Lists had returned:", lists)
	}
}

// Numbers that somebody else writes to a heap's cells: no call panics, all end.
func TestForeignNumbers(t *testing.T) {
	r := rand.New(rand.NewSource(77))
	for range 3000 {
		s := made(t, 1+r.Intn(3), 4)
		junk := func() {
			s.m.Set(r.Intn(s.m.Size()), []int{0, 1, 2, 3, 4, 5, -1, -2, cell.Pack(r.Intn(3), r.Intn(6)-1), math.MaxInt, math.MinInt, r.Int()}[r.Intn(12)])
		}
		for slot := range r.Intn(5) {
			s.push(slot, slot, r.Int())
		}
		for range 10 {
			var a *heap.Act
			switch r.Intn(3) {
			case 0:
				a = s.h.Push(r.Intn(4), []int{r.Int(), r.Int()})
			case 1:
				a = s.h.Pop()
			default:
				a = s.h.Steal(1 + r.Intn(s.h.Places()))
			}
			for k := 0; k < 20 && !a.Over(); k++ {
				junk()
				a.Step()
				if n := len(a.Hand()); n > 3*4 {
					t.Fatal(n)
				}
				for _, l := range s.h.Lists() {
					if len(l) > 4 {
						t.Fatal(l)
					}
				}
			}
			for k := 0; !a.Step(); k++ {
				if k == 1000 {
					t.Fatal("it goes on")
				}
			}
		}
	}
}
