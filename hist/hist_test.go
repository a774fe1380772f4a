package hist_test

import (
	"math"
	"math/rand"
	"slices"
	"testing"

	"kurgan/api"
	"kurgan/hist"
)

func put(item, from, to int) hist.Op {
	return hist.Op{Kind: hist.Put, Item: item, From: from, To: to}
}

func take(item, from, to int) hist.Op {
	return hist.Op{Kind: hist.Take, Item: item, From: from, To: to}
}

// fits: may the operations have been performed in this order? By the words of the chapter.
func fits(start []int, ops []hist.Op, order []int) bool {
	bag := slices.Clone(start)
	for k, i := range order {
		for _, j := range order[k+1:] { // i precedes j
			if ops[j].To < ops[i].From {
				return false
			}
		}
		op := ops[i]
		at := slices.Index(bag, op.Item)
		switch {
		case op.Kind == hist.Put:
			bag = append(bag, op.Item)
		case op.Item == -1:
			if len(bag) > 0 {
				return false
			}
		case at < 0:
			return false
		default:
			bag = slices.Delete(bag, at, at+1)
		}
	}
	return true
}

// first is the lexicographically smallest permutation that fits, of all of them; false: there is none.
func first(start []int, ops []hist.Op, begun []int) ([]int, bool) {
	if len(begun) == len(ops) {
		return slices.Clone(begun), fits(start, ops, begun)
	}
	for i := range ops {
		if slices.Contains(begun, i) {
			continue
		}
		if order, ok := first(start, ops, append(slices.Clone(begun), i)); ok {
			return order, true
		}
	}
	return nil, false
}

// hold: Orders answers what all permutations tell.
func hold(t *testing.T, start []int, ops []hist.Op) {
	t.Helper()
	want, ok := first(start, ops, nil)
	e := api.OK
	if !ok {
		want, e = nil, api.ErrMiss
	}
	if got, err := hist.Orders(start, ops); !slices.Equal(got, want) || err != e {
		t.Fatalf("Orders(%v, %v) = %v, %d, not %v, %d", start, ops, got, err, want, e)
	}
}

func TestKinds(t *testing.T) {
	if hist.Put != 1 || hist.Take != 2 {
		t.Error(hist.Put, hist.Take)
	}
}

func TestOrders(t *testing.T) {
	const low, high = math.MinInt, math.MaxInt
	for k, c := range []struct {
		start []int
		ops   []hist.Op
		want  []int
		e     api.Errno
	}{
		{nil, []hist.Op{take(-1, 0, 5), put(7, 1, 2)}, []int{0, 1}, 0}, // the document's
		{nil, []hist.Op{take(7, 0, 1), put(7, 2, 3)}, nil, api.ErrMiss},
		{nil, nil, nil, 0},
		{[]int{3, 3}, nil, nil, 0},

		{nil, []hist.Op{put(7, 2, 3), take(-1, 0, 1)}, []int{1, 0}, 0}, // a Take of -1 ahead of a Put
		{nil, []hist.Op{put(7, 0, 1), take(-1, 2, 3)}, nil, api.ErrMiss},
		{nil, []hist.Op{put(7, 0, 1), take(-1, 1, 3)}, []int{1, 0}, 0}, // they touch
		{nil, []hist.Op{take(-1, 1, 3), put(7, 0, 1)}, []int{0, 1}, 0},
		{nil, []hist.Op{put(7, 0, 9), take(-1, 3, 4)}, []int{1, 0}, 0}, // at the same time
		{nil, []hist.Op{put(7, 0, 9), take(7, 3, 4), take(-1, 5, 6)}, []int{0, 1, 2}, 0},
		{nil, []hist.Op{take(-1, 5, 6), take(7, 3, 4), put(7, 0, 9)}, []int{2, 1, 0}, 0},
		{nil, []hist.Op{put(7, 0, 1), take(-1, 2, 9), take(7, 3, 4)}, []int{0, 2, 1}, 0},
		{nil, []hist.Op{put(7, 0, 1), take(-1, 2, 3), take(7, 4, 5)}, nil, api.ErrMiss},
		{nil, []hist.Op{take(-1, 0, 0), take(-1, 0, 0)}, []int{0, 1}, 0},
		{[]int{7}, []hist.Op{take(-1, 0, 1)}, nil, api.ErrMiss},
		{[]int{-1}, []hist.Op{take(-1, 0, 1)}, nil, api.ErrMiss}, // an item like any other, that no Take removes
		{[]int{7}, []hist.Op{take(-1, 0, 1), take(7, 1, 2)}, []int{1, 0}, 0},

		{nil, []hist.Op{take(7, 0, 2), put(7, 1, 3)}, []int{1, 0}, 0}, // they overlap
		{nil, []hist.Op{take(7, 0, 2), put(7, 2, 3)}, []int{1, 0}, 0}, // they touch
		{nil, []hist.Op{take(7, 0, 2), put(7, 3, 3)}, nil, api.ErrMiss},
		{nil, []hist.Op{put(7, 0, 0), take(7, 0, 0)}, []int{0, 1}, 0},
		{nil, []hist.Op{take(7, 5, 5), put(7, 5, 5)}, []int{1, 0}, 0},
		{nil, []hist.Op{take(8, 0, 2), put(7, 1, 3)}, nil, api.ErrMiss}, // another item
		{[]int{8}, []hist.Op{take(8, 0, 2), put(7, 1, 3)}, []int{0, 1}, 0},

		{nil, []hist.Op{put(1, 4, 5), put(2, 2, 3), put(3, 0, 1)}, []int{2, 1, 0}, 0}, // one behind another
		{nil, []hist.Op{put(1, 0, 5), put(2, 0, 5), put(3, 0, 5)}, []int{0, 1, 2}, 0}, // the smallest of six
		{nil, []hist.Op{put(1, 3, 5), put(2, 0, 2), put(3, 0, 5)}, []int{1, 0, 2}, 0},
		{nil, []hist.Op{take(3, 0, 9), put(1, 0, 9), put(3, 0, 9)}, []int{1, 2, 0}, 0},
		{nil, []hist.Op{put(1, 0, 9), take(-1, 0, 9), put(2, 0, 9)}, []int{1, 0, 2}, 0},

		{nil, []hist.Op{put(7, 0, 1), take(7, 2, 3), take(7, 4, 5)}, nil, api.ErrMiss}, // equal items
		{[]int{7}, []hist.Op{put(7, 0, 1), take(7, 2, 3), take(7, 4, 5)}, []int{0, 1, 2}, 0},
		{[]int{7, 7}, []hist.Op{take(7, 0, 1), take(7, 2, 3), take(-1, 4, 5)}, []int{0, 1, 2}, 0},
		{[]int{7, 7}, []hist.Op{take(7, 0, 1), take(-1, 2, 3)}, nil, api.ErrMiss},
		{[]int{7}, []hist.Op{take(7, 0, 1), take(7, 0, 1)}, nil, api.ErrMiss},

		{nil, []hist.Op{put(7, low, low), take(7, high, high)}, []int{0, 1}, 0}, // the least and the greatest int
		{nil, []hist.Op{take(7, low, low), put(7, high, high)}, nil, api.ErrMiss},
		{nil, []hist.Op{take(7, low, high), put(7, high, high)}, []int{1, 0}, 0},
		{nil, []hist.Op{take(7, low, high-1), put(7, high, high)}, nil, api.ErrMiss},
		{nil, []hist.Op{take(7, low, low), put(7, low+1, high)}, nil, api.ErrMiss},
		{nil, []hist.Op{take(7, low, low), put(7, low, high)}, []int{1, 0}, 0},
		{[]int{low, high}, []hist.Op{take(high, 0, 1), take(low, 0, 1), put(low, 2, 3), put(0, 2, 3)}, []int{0, 1, 2, 3}, 0},
		{[]int{-2}, []hist.Op{put(-2, 0, 1), take(-2, 0, 1), take(-2, 0, 1), take(-1, 0, 1)}, []int{0, 1, 2, 3}, 0},
	} {
		got, e := hist.Orders(c.start, c.ops)
		if !slices.Equal(got, c.want) || e != c.e {
			t.Errorf("%d: Orders(%v, %v) = %v, %d, not %v, %d", k, c.start, c.ops, got, e, c.want, c.e)
		}
		hold(t, c.start, c.ops)
	}
}

// All operations of few kinds, items and times, and drawn ones of more, against all permutations.
func TestAgainstAllPermutations(t *testing.T) {
	var kinds []hist.Op
	for from := range 3 {
		for to := from; to < 3; to++ {
			kinds = append(kinds, put(7, from, to), take(7, from, to), take(-1, from, to))
		}
	}
	for _, a := range kinds {
		for _, b := range kinds {
			for _, start := range [][]int{nil, {7}, {7, 7}} {
				hold(t, start, []hist.Op{a, b})
			}
			for _, c := range kinds {
				hold(t, nil, []hist.Op{a, b, c})
			}
		}
	}
	r := rand.New(rand.NewSource(71))
	for round := range 4000 {
		var start []int
		for range r.Intn(3) {
			start = append(start, r.Intn(3))
		}
		var ops []hist.Op
		for range 1 + r.Intn(6) {
			from := r.Intn(8)
			op := hist.Op{Kind: 1 + r.Intn(2), Item: r.Intn(3), From: from, To: from + r.Intn(1+round%6)}
			if op.Kind == hist.Take && r.Intn(4) == 0 {
				op.Item = -1
			}
			ops = append(ops, op)
		}
		hold(t, start, ops)
	}
}

func TestErrors(t *testing.T) {
	twelve := slices.Repeat([]hist.Op{put(1, 0, 9)}, 12)
	hundred := make([]int, 100)
	with := func(op hist.Op, l ...hist.Op) []hist.Op { return append(slices.Clone(l), op) }
	for k, c := range []struct {
		start []int
		ops   []hist.Op
		e     api.Errno
	}{
		{nil, with(hist.Op{Kind: 0}), api.ErrArg},
		{nil, with(hist.Op{Kind: 3}), api.ErrArg},
		{nil, with(hist.Op{Kind: -1}), api.ErrArg},
		{nil, with(hist.Op{Kind: math.MaxInt}), api.ErrArg},
		{nil, with(hist.Op{Kind: math.MinInt}), api.ErrArg},
		{nil, with(put(1, 3, 2)), api.ErrArg},
		{nil, with(take(-1, 3, 2)), api.ErrArg},
		{nil, with(put(1, math.MaxInt, math.MinInt)), api.ErrArg},
		{nil, with(put(1, 0, -1)), api.ErrArg},
		{nil, with(put(-1, 0, 1)), api.ErrArg},
		{nil, with(put(-2, 0, 1)), api.OK},
		{nil, with(take(-1, 0, 1)), api.OK},
		{hundred, twelve, api.OK},
		{nil, with(put(1, 0, 9), twelve...), api.ErrBig},
		{append(hundred, 0), nil, api.ErrBig},
		{append(hundred, 0), twelve, api.ErrBig},
		{make([]int, 1000), slices.Repeat(twelve, 100), api.ErrBig},
		{hundred, with(take(0, 0, 9), twelve[1:]...), api.OK},
		{hundred, with(take(1, 0, 9)), api.ErrMiss},
		{hundred, with(take(-1, 0, 9), twelve[1:]...), api.ErrMiss},
		// the first of several
		{nil, with(put(-1, 0, 1), twelve...), api.ErrArg},
		{nil, with(put(1, 1, 0), twelve...), api.ErrArg},
		{nil, with(hist.Op{}, slices.Repeat(twelve, 3)...), api.ErrArg},
		{append(hundred, 0), with(hist.Op{Kind: 5}), api.ErrArg},
		{append(hundred, 0), with(take(5, 0, 9)), api.ErrBig},
		{nil, with(take(5, 0, 9), twelve...), api.ErrBig},
		{nil, with(put(-1, 0, 9), take(5, 0, 9)), api.ErrArg},
	} {
		got, e := hist.Orders(c.start, c.ops)
		if e != c.e || e != api.OK && len(got) > 0 || e == api.OK && !slices.Equal(got, upTo(len(c.ops))) {
			t.Errorf("%d: %v, %d, not %d", k, got, e, c.e)
		}
	}
}

func upTo(n int) []int {
	var l []int
	for k := range n {
		l = append(l, k)
	}
	return l
}

// Twelve operations at the same time have 479001600 orders, of which few or none fit.
func TestTwelveOperations(t *testing.T) {
	var ops []hist.Op
	for k := range 6 {
		ops = append(ops, take(k, 0, 9))
	}
	for k := range 6 {
		ops = append(ops, put(5-k, 0, 9))
	}
	got, e := hist.Orders(nil, ops)
	if e != api.OK || !slices.Equal(got, []int{6, 5, 7, 4, 8, 3, 9, 2, 10, 1, 11, 0}) {
		t.Error(got, e)
	}
	ops[11] = take(-1, 0, 9) // nobody puts what the first one takes
	if got, e := hist.Orders(nil, ops); e != api.ErrMiss || len(got) > 0 {
		t.Error(got, e)
	}
	for k := range 11 {
		ops[k] = put(k, 0, 9)
	}
	ops[11] = take(11, 0, 9)
	if got, e := hist.Orders(nil, ops); e != api.ErrMiss || len(got) > 0 {
		t.Error(got, e)
	}
	for k := range 12 {
		ops[k] = put(k, 11-k, 11-k)
	}
	if got, e := hist.Orders(nil, ops); e != api.OK || !slices.Equal(got, []int{11, 10, 9, 8, 7, 6, 5, 4, 3, 2, 1, 0}) {
		t.Error(got, e)
	}
}

// What was performed one after another has its own order, in which it is told by shuffled indices here; no other one if no two operations touch.
func TestOneAfterAnother(t *testing.T) {
	r := rand.New(rand.NewSource(72))
	for range 3000 {
		var start []int
		for range r.Intn(4) {
			start = append(start, r.Intn(4))
		}
		bag := slices.Clone(start)
		n := r.Intn(13)
		performed, ops := r.Perm(n), make([]hist.Op, n)
		time := -r.Intn(100)
		for _, i := range performed {
			op := put(r.Intn(4), time, time+r.Intn(3))
			if r.Intn(3) > 0 {
				op.Kind, op.Item = hist.Take, -1
				if len(bag) > 0 {
					k := r.Intn(len(bag))
					op.Item = bag[k]
					bag = slices.Delete(bag, k, k+1)
				}
			} else {
				bag = append(bag, op.Item)
			}
			ops[i] = op
			time = op.To + 1
		}
		if got, e := hist.Orders(start, ops); e != api.OK || !slices.Equal(got, performed) {
			t.Fatalf("Orders(%v, %v) = %v, %d, not %v", start, ops, got, e, performed)
		}
	}
}

func TestArgumentsAndResults(t *testing.T) {
	start := []int{4, 7, 7, 8, 9}
	ops := []hist.Op{take(7, 0, 2), put(3, 0, 1), take(7, 3, 4), put(1, 5, 6), put(2, 5, 6)}
	s, o := slices.Clone(start), slices.Clone(ops)
	a, _ := hist.Orders(start[:3], ops[:3])
	b, _ := hist.Orders(start[:3], ops[:3])
	for _, l := range [][]int{a, b} {
		if !slices.Equal(l, []int{0, 1, 2}) {
			t.Error(l)
		}
		for k := range l[:cap(l)] {
			l[:cap(l)][k] = -5
		}
	}
	if !slices.Equal(start, s) || !slices.Equal(ops, o) {
		t.Error(start, ops)
	}
	if got, e := hist.Orders(start[:3], ops[:3]); e != api.OK || !slices.Equal(got, []int{0, 1, 2}) {
		t.Error(got, e)
	}
}
