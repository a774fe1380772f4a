package hist_test

import (
	"math"
	"math/rand"
	"slices"
	"testing"

	"kurgan/api"
	"kurgan/hist"
)

// begin, end: what a call is to answer.
func begin(t *testing.T, r *hist.Recorder, kind, item, want int) {
	t.Helper()
	if n := r.Begin(kind, item); n != want {
		t.Fatalf("Begin(%d, %d) = %d, not %d", kind, item, n, want)
	}
}

func end(t *testing.T, r *hist.Recorder, n, item int, want api.Errno) {
	t.Helper()
	if e := r.End(n, item); e != want {
		t.Fatalf("End(%d, %d) = %d, not %d", n, item, e, want)
	}
}

func told(t *testing.T, r *hist.Recorder, want ...hist.Op) {
	t.Helper()
	if l := r.Ops(); !slices.Equal(l, want) {
		t.Fatalf("%v, not %v", l, want)
	}
}

func TestRecorder(t *testing.T) {
	var r hist.Recorder
	told(t, &r)
	begin(t, &r, hist.Put, 7, 0) // at 0
	told(t, &r)
	begin(t, &r, hist.Take, 0, 1) // at 1
	begin(t, &r, hist.Take, 9, 2) // at 2
	told(t, &r)
	end(t, &r, 1, 7, api.OK) // at 3
	told(t, &r, take(7, 1, 3))
	end(t, &r, 0, 7, api.OK) // at 4, behind the one that began later
	told(t, &r, put(7, 0, 4), take(7, 1, 3))
	begin(t, &r, hist.Put, 8, 3)
	end(t, &r, 3, 8, api.OK) // from 5 to 6; the one that began at 2 hasn't ended
	told(t, &r, put(7, 0, 4), take(7, 1, 3), put(8, 5, 6))
	end(t, &r, 2, -1, api.OK)
	told(t, &r, put(7, 0, 4), take(7, 1, 3), take(-1, 2, 7), put(8, 5, 6))
	if order, e := hist.Orders(nil, r.Ops()); e != api.OK || !slices.Equal(order, []int{0, 1, 2, 3}) {
		t.Error(order, e)
	}
}

// A wrong End between the beginnings of two others.
func TestWrongEndAmidOthers(t *testing.T) {
	var r hist.Recorder
	begin(t, &r, hist.Put, 5, 0) // at 0
	end(t, &r, 7, 5, api.ErrMiss)
	begin(t, &r, hist.Take, 5, 1) // at 2
	end(t, &r, 0, 5, api.OK)
	end(t, &r, 1, 5, api.OK)
	told(t, &r, put(5, 0, 3), take(5, 2, 4))
}

// Ahead of the first Begin an End's call counts as well.
func TestEndsAheadOfAll(t *testing.T) {
	var r hist.Recorder
	end(t, &r, 0, 5, api.ErrMiss)
	end(t, &r, -1, 5, api.ErrMiss)
	told(t, &r)
	begin(t, &r, hist.Put, 7, 0) // at 2
	end(t, &r, 0, 7, api.OK)
	told(t, &r, put(7, 2, 3))
}

// An End that returns an error changes no operation, but it counts time: of a negative number, of one that is too great, and of an operation that has ended; ahead of a Begin and ahead of an End.
func TestWrongEnds(t *testing.T) {
	for _, n := range []int{math.MinInt, -2, -1, 2, 3, 100, math.MaxInt, 1} {
		for _, times := range []int{1, 2, 5} {
			var r hist.Recorder
			wrong := func() {
				before := r.Ops()
				for range times {
					end(t, &r, n, 6, api.ErrMiss)
					told(t, &r, before...)
				}
			}
			begin(t, &r, hist.Put, 7, 0) // at 0
			begin(t, &r, hist.Put, 8, 1) // at 1
			end(t, &r, 1, 8, api.OK)     // at 2
			told(t, &r, put(8, 1, 2))
			wrong() // from 3 on
			end(t, &r, 0, 7, api.OK)
			told(t, &r, put(7, 0, 3+times), put(8, 1, 2))

			if n == 2 { // which is there from now on
				continue
			}
			wrong()
			begin(t, &r, hist.Take, 0, 2)
			end(t, &r, 2, 7, api.OK)
			told(t, &r, put(7, 0, 3+times), put(8, 1, 2), take(7, 4+2*times, 5+2*times))
		}
	}
}

// The number behind the last one is no operation's till a Begin returns it.
func TestEndOfTheNextNumber(t *testing.T) {
	var r hist.Recorder
	begin(t, &r, hist.Put, 7, 0)  // at 0
	end(t, &r, 1, 8, api.ErrMiss) // at 1
	begin(t, &r, hist.Put, 8, 1)  // at 2
	end(t, &r, 1, 8, api.OK)      // at 3
	end(t, &r, 1, 9, api.ErrMiss) // at 4
	end(t, &r, 0, 7, api.OK)      // at 5
	end(t, &r, 0, 9, api.ErrMiss) // at 6
	begin(t, &r, hist.Take, 7, 2) // at 7
	end(t, &r, 2, 7, api.OK)      // at 8
	told(t, &r, put(7, 0, 5), put(8, 2, 3), take(7, 7, 8))
}

// What is recorded is what is handed in; it is End's item that is told.
func TestItemsOfARecorder(t *testing.T) {
	var r hist.Recorder
	n := 0
	var want []hist.Op
	for _, kind := range []int{hist.Put, hist.Take, 0, 3, math.MinInt, math.MaxInt} {
		for _, item := range []int{-1, 0, 5, math.MinInt, math.MaxInt} {
			begin(t, &r, kind, 3, n)
			end(t, &r, n, item, api.OK)
			want = append(want, hist.Op{Kind: kind, Item: item, From: 2 * n, To: 2*n + 1})
			n++
		}
	}
	told(t, &r, want...)
}

func TestRecordersOfTheirOwn(t *testing.T) {
	var r, other hist.Recorder
	begin(t, &r, hist.Put, 7, 0)
	begin(t, &r, hist.Put, 8, 1)
	end(t, &r, 1, 8, api.OK)
	told(t, &other)
	for range 2 {
		l := r.Ops()
		if !slices.Equal(l, []hist.Op{put(8, 1, 2)}) {
			t.Fatal(l)
		}
		for k := range l[:cap(l)] {
			l[:cap(l)][k] = put(5, 5, 5)
		}
	}
	l := r.Ops()
	end(t, &r, 0, 7, api.OK)
	begin(t, &r, hist.Put, 7, 2)
	if !slices.Equal(l, []hist.Op{put(8, 1, 2)}) {
		t.Error(l)
	}
	begin(t, &other, hist.Take, 0, 0)
	end(t, &other, 0, -1, api.OK)
	told(t, &other, take(-1, 0, 1))
}

func TestNilRecorder(t *testing.T) {
	var r *hist.Recorder
	for _, n := range []int{math.MinInt, -1, 0, 1, math.MaxInt} {
		begin(t, r, hist.Put, n, -1)
		begin(t, r, n, 7, -1)
		end(t, r, n, 7, api.ErrArg)
		told(t, r)
	}
}

// Drawn calls against a list of all that was begun.
func TestManyRecords(t *testing.T) {
	draw := rand.New(rand.NewSource(73))
	for range 50 {
		var r hist.Recorder
		var all []hist.Op
		open := map[int]int{}
		time := 0
		for range 200 {
			n := draw.Intn(len(all)+3) - 1
			_, there := open[n]
			switch {
			case draw.Intn(3) == 0:
				begin(t, &r, hist.Take, time, len(all))
				open[len(all)] = 1
				all = append(all, take(0, time, -1))
				time++
			case there:
				end(t, &r, n, n+5, api.OK)
				all[n].Item, all[n].To = n+5, time
				delete(open, n)
				time++
			default:
				end(t, &r, n, 5, api.ErrMiss)
				time++
			}
			var want []hist.Op
			for k, op := range all {
				if _, there := open[k]; !there {
					want = append(want, op)
				}
			}
			told(t, &r, want...)
		}
	}
}
