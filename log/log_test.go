package log_test

import (
	"math"
	"math/rand"
	"slices"
	"testing"

	"kurgan/log"
)

func same(a, b log.Record) bool { return a.Kind == b.Kind && slices.Equal(a.Path, b.Path) }

func sameAll(a, b []log.Record) bool { return slices.EqualFunc(a, b, same) }

// drawn is so many records, with short paths of few numbers, so that many are equal.
func drawn(r *rand.Rand, n int) []log.Record {
	var l []log.Record
	for range n {
		var path []int
		for range r.Intn(4) {
			path = append(path, r.Intn(4)-1)
		}
		l = append(l, log.Record{Kind: r.Intn(5) - 1, Path: path})
	}
	return l
}

func filled(records ...log.Record) *log.Log {
	var l log.Log
	for _, r := range records {
		l.Add(r.Kind, r.Path)
	}
	return &l
}

func TestZeroAndNil(t *testing.T) {
	var zero log.Log
	var none *log.Log
	for _, l := range []*log.Log{&zero, none} {
		if l.Len() != 0 || len(l.All()) != 0 || len(log.Join(l)) != 0 {
			t.Error(l.Len(), l.All())
		}
	}
	none.Add(1, []int{1})
	if none.Len() != 0 || len(none.All()) != 0 {
		t.Error("a nil Log keeps a record")
	}
	zero.Add(1, nil)
	if zero.Len() != 1 || !sameAll(zero.All(), []log.Record{{Kind: 1}}) {
		t.Error(zero.Len(), zero.All())
	}
}

// All tells the records as they came, of whatever kind, equal ones too.
func TestAll(t *testing.T) {
	r := rand.New(rand.NewSource(251))
	var l log.Log
	want := drawn(r, 3000)
	want[7] = log.Record{Kind: math.MinInt, Path: []int{math.MaxInt, math.MinInt}}
	want[8] = want[7]
	want[9].Path = nil
	want[10].Path = []int{}
	for k, record := range want {
		l.Add(record.Kind, record.Path)
		if l.Len() != k+1 {
			t.Fatal(k, l.Len())
		}
		if k < 50 && !sameAll(l.All(), want[:k+1]) {
			t.Fatal(k, l.All())
		}
	}
	if !sameAll(l.All(), want) {
		t.Error("not all records as they came")
	}
}

// A path is neither kept nor changed, nor what is behind its end.
func TestPathsAreNotKept(t *testing.T) {
	var l log.Log
	room := []int{1, 2, 3, 4, 5}
	path := room[:3]
	l.Add(2, path)
	l.Add(3, path[:2])
	if !slices.Equal(room, []int{1, 2, 3, 4, 5}) {
		t.Error("changed", room)
	}
	path[0], path[1] = 8, 9
	want := []log.Record{{Kind: 2, Path: []int{1, 2, 3}}, {Kind: 3, Path: []int{1, 2}}}
	if !sameAll(l.All(), want) {
		t.Error("kept", l.All())
	}
}

// spoil changes all that a result has, and what is behind the end of each Path.
func spoil(l []log.Record) {
	for k := range l {
		l[k].Path = append(l[k].Path, 99)
		for i := range l[k].Path {
			l[k].Path[i] = 77
		}
		l[k] = log.Record{}
	}
	_ = append(l, log.Record{Kind: 55})
}

// What All and Join return is newly allocated: it shares memory neither with the log nor with another result, and no two Paths share any.
func TestResultsAreNew(t *testing.T) {
	want := []log.Record{{Kind: 1, Path: []int{5}}, {Kind: 2, Path: []int{5, 1}}, {Kind: 3, Path: []int{5, 2}}}
	l := filled(want...)
	for name, tell := range map[string]func() []log.Record{
		"All":  l.All,
		"Join": func() []log.Record { return log.Join(l) },
		"both": func() []log.Record { return log.Join(nil, l, &log.Log{}) },
	} {
		first, second := tell(), tell()
		spoil(first)
		if !sameAll(second, want) || !sameAll(l.All(), want) || !sameAll(tell(), want) {
			t.Error(name, second, l.All())
		}
		for k := range second {
			before := slices.Clone(second)
			_ = append(second[k].Path, 66)
			second[k].Path[0] = 44
			for other := range second {
				if other != k && !same(second[other], before[other]) {
					t.Error(name, "Paths share memory", k, other)
				}
			}
			second[k].Path[0] = 5
		}
	}
	both := log.Join(l, l)
	both[0].Path[0] = 9
	if both[1].Path[0] != 5 {
		t.Error("two records of one log given twice share memory")
	}
}

func TestAhead(t *testing.T) {
	for _, c := range []struct {
		p, q []int
		want bool
	}{
		{[]int{1}, []int{1, 0}, true},
		{[]int{2}, []int{1, 5}, false},
		{nil, nil, false},
		{nil, []int{}, false},
		{[]int{}, nil, false},
		{nil, []int{0}, true},
		{nil, []int{-5}, true},
		{[]int{}, []int{math.MinInt}, true},
		{[]int{-1}, []int{0}, true},
		{[]int{math.MinInt}, []int{math.MaxInt}, true},
		{[]int{math.MaxInt}, []int{math.MinInt}, false},
		{[]int{-1}, []int{-2, 7}, false},
		{[]int{1, 2, 3}, []int{1, 2, 3}, false},
		{[]int{0, 9, 9}, []int{1}, true},
		{[]int{1, 2, 9}, []int{1, 3}, true},
		{[]int{1, 2, 9, 4}, []int{1, 3, 0, 4}, true},
		{[]int{1, 2, 3, 4}, []int{1, 2, 3, 5}, true},
		{[]int{1, 2, 3}, []int{1, 2, 3, -7}, true},
		{[]int{1, 2, 3, -7}, []int{1, 2, 3}, false},
	} {
		if got := log.Ahead(c.p, c.q); got != c.want {
			t.Error(c.p, c.q, got)
		}
		if c.want && log.Ahead(c.q, c.p) {
			t.Error("both ways:", c.p, c.q)
		}
	}
}

// precedes is the chapter's word by word.
func precedes(p, q []int) bool {
	if len(p) == 0 || len(q) == 0 {
		return len(p) < len(q)
	}
	if p[0] != q[0] {
		return p[0] < q[0]
	}
	return precedes(p[1:], q[1:])
}

// All pairs of paths of up to three numbers from -1 to 1: of two that differ just one precedes the other.
func TestAheadOfAll(t *testing.T) {
	paths := [][]int{nil}
	for k := 0; len(paths[k]) < 3; k++ {
		for n := -1; n <= 1; n++ {
			paths = append(paths, append(slices.Clone(paths[k]), n))
		}
	}
	for _, p := range paths {
		for _, q := range paths {
			if log.Ahead(p, q) != precedes(p, q) {
				t.Error(p, q)
			}
			if !slices.Equal(p, q) && log.Ahead(p, q) == log.Ahead(q, p) {
				t.Error("not just one:", p, q)
			}
		}
	}
}

// joined puts each record behind the last one that it does not precede.
func joined(logs ...[]log.Record) []log.Record {
	var l []log.Record
	for _, r := range slices.Concat(logs...) {
		at := len(l)
		for at > 0 && precedes(r.Path, l[at-1].Path) {
			at--
		}
		l = slices.Insert(l, at, r)
	}
	return l
}

func TestJoin(t *testing.T) {
	if len(log.Join()) != 0 || len(log.Join(nil, nil)) != 0 || len(log.Join(nil, &log.Log{})) != 0 {
		t.Error("there is something in no logs")
	}
	a := filled(log.Record{Kind: 1, Path: []int{1}}, log.Record{Kind: 2}, log.Record{Kind: 3, Path: []int{1}})
	b := filled(log.Record{Kind: 4, Path: []int{1, -1}}, log.Record{Kind: 5, Path: []int{1}}, log.Record{Kind: 6})
	want := []log.Record{{Kind: 2}, {Kind: 6}, {Kind: 1, Path: []int{1}}, {Kind: 3, Path: []int{1}}, {Kind: 5, Path: []int{1}}, {Kind: 4, Path: []int{1, -1}}}
	if got := log.Join(a, nil, b); !sameAll(got, want) {
		t.Error(got)
	}
	want = []log.Record{{Kind: 6}, {Kind: 2}, {Kind: 5, Path: []int{1}}, {Kind: 1, Path: []int{1}}, {Kind: 3, Path: []int{1}}, {Kind: 4, Path: []int{1, -1}}}
	if got := log.Join(b, a); !sameAll(got, want) {
		t.Error(got)
	}
	if a.Len() != 3 || b.Len() != 3 || a.All()[0].Kind != 1 {
		t.Error("Join changed a log")
	}
}

// Joins of up to five logs, some of them nil, whose records were added in any order.
func TestJoinOfMany(t *testing.T) {
	r := rand.New(rand.NewSource(252))
	for range 400 {
		var logs []*log.Log
		var lists [][]log.Record
		for range r.Intn(6) {
			if r.Intn(5) == 0 {
				logs = append(logs, nil)
				continue
			}
			l := drawn(r, r.Intn(60))
			lists = append(lists, l)
			logs = append(logs, filled(l...))
		}
		if got, want := log.Join(logs...), joined(lists...); !sameAll(got, want) {
			t.Fatal(got, want)
		}
	}
}
