package mound_test

import (
	"cmp"
	"fmt"
	"math"
	"math/rand"
	"slices"
	"testing"

	"kurgan/api"
	"kurgan/mound"
)

func made(t *testing.T, levels int) *mound.Mound {
	t.Helper()
	m, e := mound.New(levels)
	if e != api.OK || m == nil {
		t.Fatalf("New(%d) = %v, %d", levels, m, e)
	}
	return m
}

// model is a mound by the words of the chapter: the lists by their places, each from its first item on.
type model map[int][]mound.Item

type pair struct {
	t *testing.T
	m *mound.Mound
	w model
	n int // places
}

func twins(t *testing.T, levels int) *pair {
	t.Helper()
	p := &pair{t, made(t, levels), model{}, 1<<levels - 1}
	p.hold()
	return p
}

// takes: is the value of a place not less than a key?
func (w model) takes(place, key int) bool { return len(w[place]) == 0 || w[place][0].Key >= key }

// smaller: has a place a smaller value than another one?
func (w model) smaller(a, b int) bool {
	return len(w[a]) > 0 && (len(w[b]) == 0 || w[a][0].Key < w[b][0].Key)
}

// considered: the leaves, as places, in the order in which they are looked at.
func (p *pair) considered(draws []int) []int {
	leaves := uint64(p.n+1) / 2
	var l []int
	for k, draw := range draws {
		if k < 4 {
			l = append(l, int(leaves+uint64(draw)%leaves))
		}
	}
	for leaf := leaves; leaf < 2*leaves; leaf++ {
		l = append(l, int(leaf))
	}
	return l
}

// insert answers at which place the item was added; 0: nowhere.
func (p *pair) insert(x mound.Item, draws ...int) int {
	p.t.Helper()
	want := 0
	for _, leaf := range p.considered(draws) {
		if want > 0 || !p.w.takes(leaf, x.Key) {
			continue
		}
		for place := leaf; place > 0; place /= 2 { // the last one that is found is the first one from the root on
			if p.w.takes(place, x.Key) {
				want = place
			}
		}
	}
	if want > 0 {
		p.w[want] = slices.Insert(slices.Clone(p.w[want]), 0, x)
	}
	if got := p.m.Insert(x, draws); got != (want > 0) {
		p.t.Fatalf("Insert(%v, %v) = %v on %v", x, draws, got, p.m.Lists())
	}
	p.hold()
	return want
}

func (p *pair) pop() (mound.Item, bool) {
	p.t.Helper()
	var want mound.Item
	there := len(p.w[1]) > 0
	if there {
		want = p.w[1][0]
		p.w[1] = p.w[1][1:]
		p.sink(1)
	}
	if x, ok := p.m.Pop(); x != want || ok != there {
		p.t.Fatalf("Pop() = %v, %v, not %v, %v", x, ok, want, there)
	}
	p.hold()
	return want, there
}

func (p *pair) sink(place int) {
	child := 2 * place
	if child+1 <= p.n && p.w.smaller(child+1, child) {
		child++
	}
	if child <= p.n && p.w.smaller(child, place) {
		p.w[place], p.w[child] = p.w[child], p.w[place]
		p.sink(child)
	}
}

// hold: the mound is as the model, no list's Keys decrease, and no place's value is greater than its children's.
func (p *pair) hold() {
	p.t.Helper()
	lists := p.m.Lists()
	if len(lists) != p.n {
		p.t.Fatalf("%d lists, not %d", len(lists), p.n)
	}
	size := 0
	for k, l := range lists {
		place := k + 1
		size += len(l)
		if !slices.Equal(l, p.w[place]) {
			p.t.Fatalf("at %d there is %v, not %v: %v, not %v", place, l, p.w[place], lists, p.w)
		}
		if !slices.IsSortedFunc(l, func(a, b mound.Item) int { return cmp.Compare(a.Key, b.Key) }) {
			p.t.Fatalf("at %d: %v", place, l)
		}
		if place > 1 && p.w.smaller(place, place/2) {
			p.t.Fatalf("%d is smaller than what is above it: %v", place, lists)
		}
	}
	var first mound.Item
	if len(lists[0]) > 0 {
		first = lists[0][0]
	}
	if x, ok := p.m.Min(); p.m.Size() != size || x != first || ok != (size > 0) {
		p.t.Fatalf("Size %d, Min %v %v: %v", p.m.Size(), x, ok, lists)
	}
	for _, l := range lists {
		for _, x := range l {
			if x.Key < first.Key {
				p.t.Fatalf("%v is not the smallest one: %v", first, lists)
			}
		}
	}
}

func item(key int) mound.Item { return mound.Item{Key: key, Id: key + 1000} }

func TestNew(t *testing.T) {
	for levels := 1; levels <= 6; levels++ {
		m := made(t, levels)
		if lists := m.Lists(); len(lists) != []int{1, 3, 7, 15, 31, 63}[levels-1] || m.Size() != 0 {
			t.Error(levels, lists, m.Size())
		}
	}
	for _, levels := range []int{math.MinInt, -6, -1, 0, 7, 8, 64, math.MaxInt} {
		if m, e := mound.New(levels); m != nil || e != api.ErrArg {
			t.Errorf("New(%d) = %v, %d", levels, m, e)
		}
	}
}

// The document's example, and that what doesn't fit changes nothing.
func TestOneLevel(t *testing.T) {
	m := made(t, 1)
	if !m.Insert(mound.Item{Key: 5, Id: 1}, nil) || !m.Insert(mound.Item{Key: 3, Id: 2}, nil) || m.Insert(mound.Item{Key: 4, Id: 3}, nil) {
		t.Error("5 and 3 fit, 4 doesn't")
	}
	if l := m.Lists(); m.Size() != 2 || len(l) != 1 || !slices.Equal(l[0], []mound.Item{{Key: 3, Id: 2}, {Key: 5, Id: 1}}) {
		t.Error(l)
	}
	for _, want := range []mound.Item{{Key: 3, Id: 2}, {Key: 5, Id: 1}} {
		if x, ok := m.Pop(); x != want || !ok {
			t.Error(x, ok)
		}
	}
	if x, ok := m.Pop(); x != (mound.Item{}) || ok {
		t.Error(x, ok)
	}
	if !m.Insert(mound.Item{Key: 4, Id: 3}, nil) {
		t.Error("an emptied one takes all")
	}
}

// filled has four levels, whose leaves (8 to 15) have these Keys; all places above have smaller ones.
func filled(t *testing.T, keys ...int) *pair {
	t.Helper()
	p := twins(t, 4)
	for k, key := range keys {
		for up := 3; up > 0; up-- {
			if len(p.w[(8+k)>>up]) == 0 {
				p.insert(item(-up), k)
			}
		}
		if place := p.insert(item(key), k); place != 8+k {
			t.Fatalf("%d came to %d, not to %d", key, place, 8+k)
		}
	}
	return p
}

// Which leaf is chosen shows at the leaf itself, if all places above have less.
func TestLeafThatIsChosen(t *testing.T) {
	const first = math.MinInt // as an unsigned number 2^63, a multiple of 8
	for _, c := range []struct {
		key, want int
		draws     []int
	}{
		{50, 10, nil},                                   // the leftmost one that fits
		{50, 13, []int{5}},                              // what a draw selects
		{50, 13, []int{0, 5}},                           // what a later draw selects
		{50, 13, []int{0, 1, 5}},                        //
		{50, 13, []int{0, 1, 0, 5}},                     // the fourth
		{50, 10, []int{0, 1, 0, 1, 5}},                  // the fifth selects none
		{50, 10, []int{0, 1, 0, 1, 5, 5, 5, 5}},         //
		{50, 10, []int{0, 0}},                           // a leaf that no draw selects
		{50, 13, []int{5, 2, 3, 4}},                     // the first one that fits, not the leftmost
		{50, 15, []int{7, 5}},                           //
		{50, 13, []int{8 + 5}},                          // counted round
		{50, 13, []int{8e9 + 5}},                        //
		{50, 15, []int{-1}},                             // 2^64 - 1
		{50, 13, []int{-3}},                             //
		{50, 13, []int{first + 5}},                      //
		{50, 15, []int{math.MaxInt}},                    // 2^63 - 1
		{50, 12, []int{first, -7, first + 1, -4}},       // of the leaves 0, 1, 1, 4
		{50, 10, []int{first, -7, first + 1, -8, 4, 4}}, // of the leaves 0, 1, 1, 0
		{20, 9, nil},                                    // equal to the leaf's value
		{20, 9, []int{1}},                               //
		{21, 10, []int{1}},                              // greater
		{70, 15, nil},                                   // only the last one fits
		{70, 15, []int{0, 1, 2, 3}},                     //
		{71, 0, nil},                                    // none fits
		{71, 0, []int{7, 7, 7, 7}},                      //
		{math.MaxInt, 0, []int{0, -1}},                  //
	} {
		p := filled(t, 10, 20, 50, 50, 55, 60, 65, 70)
		if got := p.insert(mound.Item{Key: c.key, Id: 7}, c.draws...); got != c.want {
			t.Errorf("%d with %v came to %d, not to %d", c.key, c.draws, got, c.want)
		}
	}
}

// On the path to the leaf, the first place that takes the item has it, ahead of those that it had.
func TestPlaceOnThePath(t *testing.T) {
	for _, c := range []struct {
		levels, key, want int
		draws             []int
	}{
		{3, 1, 1, nil},
		{3, 2, 1, nil}, // equal to the root's value
		{3, 3, 2, nil},
		{3, 4, 2, nil}, // equal
		{3, 5, 4, nil},
		{3, 6, 4, nil},
		{3, 7, 3, []int{2}},
		{3, 8, 3, []int{3}},
		{3, 9, 6, []int{2}}, // an empty leaf
		{3, 9, 7, []int{3}},
		{3, math.MaxInt, 5, []int{1}},
		{3, math.MinInt, 1, []int{3}},
	} {
		p := twins(t, c.levels)
		p.insert(item(2))
		p.insert(item(4), 0)
		p.insert(item(8), 2)
		p.insert(item(6), 0)
		for place, key := range map[int]int{1: 2, 2: 4, 3: 8, 4: 6} {
			if l := p.w[place]; len(l) != 1 || l[0] != item(key) {
				t.Fatal(p.w)
			}
		}
		if got := p.insert(mound.Item{Key: c.key, Id: 1}, c.draws...); got != c.want {
			t.Errorf("%d with %v came to %d, not to %d", c.key, c.draws, got, c.want)
		}
	}
}

// tree is a mound of two levels with such Keys at its root and both children, from each list's first item on.
func tree(t *testing.T, root, left, right []int) *pair {
	t.Helper()
	p := twins(t, 2)
	for k, l := range [][]int{root, left, right} { // the root's first Key is less than all others
		for _, key := range slices.Backward(l) {
			if place := p.insert(mound.Item{Key: key, Id: k}, k-1); place != 1+k {
				t.Fatal(key, place)
			}
		}
	}
	return p
}

func TestPopWithTwoChildren(t *testing.T) {
	for _, c := range []struct {
		root, left, right []int
		want              string
	}{
		{[]int{1}, nil, nil, "[] [] []"},
		{[]int{0, 1}, nil, nil, "[1] [] []"},
		{[]int{1}, []int{5}, nil, "[5] [] []"},
		{[]int{1}, nil, []int{5}, "[5] [] []"},
		{[]int{1}, []int{5}, []int{5}, "[5] [] [5]"}, // of two equal ones the left one
		{[]int{1}, []int{5, 6}, []int{5, 7}, "[5 6] [] [5 7]"},
		{[]int{1}, []int{6}, []int{5}, "[5] [6] []"},
		{[]int{1}, []int{5}, []int{6}, "[5] [] [6]"},
		{[]int{1, 4}, []int{5}, []int{6}, "[4] [5] [6]"}, // none is smaller
		{[]int{1, 5}, []int{5}, []int{5}, "[5] [5] [5]"}, // an equal one is not smaller
		{[]int{1, 6}, []int{5, 9}, []int{5}, "[5 9] [6] [5]"},
		{[]int{1, 6}, []int{7}, []int{5}, "[5] [7] [6]"}, // the left one is not smaller
		{[]int{1, 6}, []int{5}, []int{7}, "[5] [6] [7]"},
		{[]int{1, 6}, nil, []int{5}, "[5] [] [6]"},
		{[]int{1, 6, 8}, []int{5}, nil, "[5] [6 8] []"},
	} {
		p := tree(t, c.root, c.left, c.right)
		p.pop()
		var got [3][]int
		for k, l := range p.m.Lists() {
			for _, x := range l {
				got[k] = append(got[k], x.Key)
			}
		}
		if s := fmt.Sprint(got[0], got[1], got[2]); s != c.want {
			t.Errorf("%v %v %v becomes %s, not %s", c.root, c.left, c.right, s, c.want)
		}
	}
}

// Long rows of calls, each held against the model; at their ends all that is in comes out, the smallest Key first.
func TestManyCalls(t *testing.T) {
	r := rand.New(rand.NewSource(70))
	numbers := []int{math.MinInt, math.MinInt + 1, -1, 0, 1, math.MaxInt - 1, math.MaxInt}
	for round := range 300 {
		p := twins(t, 1+round%6)
		keys := []int{1, 3, 20, 1000}[r.Intn(4)]
		count := map[mound.Item]int{}
		for id := range 200 {
			if r.Intn(8) < round%4 {
				if x, ok := p.pop(); ok {
					count[x]--
				}
				continue
			}
			x := mound.Item{Key: r.Intn(keys), Id: id}
			if r.Intn(10) == 0 {
				x = mound.Item{Key: numbers[r.Intn(7)], Id: r.Intn(2)}
			}
			var draws []int
			for range r.Intn(7) {
				draws = append(draws, []int{r.Intn(64), -r.Intn(64), numbers[r.Intn(7)], r.Int()}[r.Intn(4)])
			}
			if p.insert(x, draws...) > 0 {
				count[x]++
			}
		}
		last := math.MinInt
		for size := p.m.Size(); size > 0; size-- {
			x, ok := p.pop()
			if !ok || x.Key < last {
				t.Fatal(x, ok, "behind", last)
			}
			last = x.Key
			count[x]--
		}
		for x, n := range count {
			if n != 0 {
				t.Fatal(x, "went in so many times more than it came out:", n)
			}
		}
		for range 3 {
			if x, ok := p.pop(); ok {
				t.Fatal(x)
			}
		}
	}
}

// A long list: falling Keys all go to the root.
func TestFallingKeys(t *testing.T) {
	const n = 200000
	m := made(t, 6)
	for key := range n {
		if !m.Insert(item(n-key), nil) {
			t.Fatal(key)
		}
	}
	if l := m.Lists(); m.Size() != n || len(l[0]) != n || l[0][0] != item(1) || l[0][n-1] != item(n) {
		t.Fatal(m.Size())
	}
	for key := range n {
		if x, ok := m.Pop(); x != item(key+1) || !ok {
			t.Fatal(x, ok)
		}
	}
}

// Draws are neither changed nor kept, and what Lists returns is nobody else's.
func TestMemoryOfItsOwn(t *testing.T) {
	m := made(t, 3)
	m.Insert(item(1), nil)
	draws := []int{3, -1, 5, 9, 11, 12}
	m.Insert(item(5), draws[:3])
	if !slices.Equal(draws, []int{3, -1, 5, 9, 11, 12}) {
		t.Error(draws)
	}
	m.Insert(item(4), draws[:0])
	clear(draws)
	before := fmt.Sprint(m.Lists())
	for range 2 {
		lists := m.Lists()
		if got := fmt.Sprint(lists); got != before {
			t.Fatal(got, before)
		}
		for k := range lists {
			l := lists[k][:cap(lists[k])]
			for i := range l {
				l[i] = item(-7)
			}
			lists[k] = append(lists[k][:0], item(-8))
		}
		for k, l := range lists {
			if len(l) != 1 || l[0] != item(-8) {
				t.Error(k, "shares memory with another list:", l)
			}
		}
	}
	lists := m.Lists()
	m.Pop()
	m.Insert(item(-3), nil)
	if got := fmt.Sprint(lists); got != before {
		t.Error("a call changed what Lists had returned:", got)
	}
	other := made(t, 3)
	if other.Size() != 0 {
		t.Error(other.Lists())
	}
}

func TestNilMound(t *testing.T) {
	for _, m := range []*mound.Mound{nil, {}} { // an empty one that New didn't make has no place either
		for _, draws := range [][]int{nil, {0}, {-1, 3, 4, 5, 6}} {
			if m.Insert(item(1), draws) {
				t.Error("Insert", draws)
			}
		}
		if x, ok := m.Min(); x != (mound.Item{}) || ok {
			t.Error(x, ok)
		}
		if x, ok := m.Pop(); x != (mound.Item{}) || ok {
			t.Error(x, ok)
		}
		if m.Size() != 0 || len(m.Lists()) != 0 {
			t.Error(m.Size(), m.Lists())
		}
	}
}
