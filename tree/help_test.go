package tree_test

import (
	"fmt"
	"math/rand"
	"slices"
	"strings"
	"testing"

	"kurgan/api"
	"kurgan/dive"
	"kurgan/gen"
	"kurgan/kernel"
	"kurgan/log"
	"kurgan/tree"
)

// drawn is a problem of a kind with numbers below top.
func drawn(r *rand.Rand, kind, n, top int) api.Instance {
	i, _ := gen.Make(kind, n, top-1, r.Uint64())
	if kind == api.Knapsack {
		i.Cap = r.Intn(n*top/2 + 1)
	}
	return i
}

// small calls visit for problems of each kind.
func small(r *rand.Rand, most int, visit func(i api.Instance, k *kernel.Kernel)) {
	for kind := 1; kind <= 3; kind++ {
		for n := 1; n <= most; n++ {
			for _, top := range []int{2, 9, 100} {
				i := drawn(r, kind, n, top)
				k, _ := kernel.Of(i)
				visit(i, k)
			}
		}
	}
}

func oneItem() *kernel.Kernel {
	k, _ := kernel.Of(api.Instance{Kind: 1, N: 1, Cap: 1, Weight: []int{1}, Value: []int{1}})
	return k
}

func same(a, b log.Record) bool { return a.Kind == b.Kind && slices.Equal(a.Path, b.Path) }

func sameAll(a, b []log.Record) bool { return slices.EqualFunc(a, b, same) }

func copied(l []log.Record) []log.Record {
	var all []log.Record
	for _, r := range l {
		all = append(all, log.Record{Kind: r.Kind, Path: slices.Clone(r.Path)})
	}
	return all
}

// shuffled is the records in another order.
func shuffled(r *rand.Rand, l []log.Record) []log.Record {
	all := slices.Clone(l)
	r.Shuffle(len(all), func(a, b int) { all[a], all[b] = all[b], all[a] })
	return all
}

// searched is what a search in place meets that knows the least cost of its leaves, in its order.
func searched(k *kernel.Kernel, least int) []log.Record {
	var l []log.Record
	d, _ := dive.New(k, nil)
	for {
		e, there := d.Step(least)
		if !there {
			return l
		}
		if e.Kind == dive.Leaf {
			least = e.Cost
		}
		l = append(l, log.Record{Kind: e.Kind, Path: e.Path})
	}
}

// followers: the prefixes with one number more, rising.
func followers(k *kernel.Kernel, p []int) [][]int {
	kids, _ := k.Kids(p)
	slices.Sort(kids)
	var l [][]int
	for _, kid := range kids {
		l = append(l, append(slices.Clone(p), kid))
	}
	return l
}

// anySearch is a complete search that nobody made: its kinds are drawn, where they may be.
func anySearch(r *rand.Rand, k *kernel.Kernel, p []int) []log.Record {
	if r.Intn(4) == 0 {
		return []log.Record{{Kind: dive.Pruned, Path: p}}
	}
	if len(p) == k.Depth() {
		return []log.Record{{Kind: dive.Leaf, Path: p}}
	}
	l := []log.Record{{Kind: dive.Branch, Path: p}}
	for _, q := range followers(k, p) {
		l = append(l, anySearch(r, k, q)...)
	}
	return l
}

// plainWord is the chapter's word, by looking up each prefix; false: the records are no complete search.
func plainWord(k *kernel.Kernel, l []log.Record) (string, bool) {
	records := map[string]log.Record{}
	for _, r := range l {
		records[fmt.Sprint(r.Path)] = r
	}
	word, right := visit(k, records, nil)
	return word, right && len(word) == len(l)
}

func visit(k *kernel.Kernel, records map[string]log.Record, p []int) (string, bool) {
	r, there := records[fmt.Sprint(p)]
	complete := len(p) == k.Depth()
	switch {
	case !there || r.Kind < 1 || r.Kind > 3 || r.Kind == dive.Leaf && !complete || r.Kind == dive.Branch && complete:
		return "", false
	case r.Kind == dive.Pruned:
		return "p", true
	case r.Kind == dive.Leaf:
		return "l", true
	}
	word := "b"
	for _, q := range followers(k, p) {
		below, right := visit(k, records, q)
		if !right {
			return "", false
		}
		word += below
	}
	return word, true
}

// plainRead is the chapter's Read of a word of few letters; it calls itself for each prefix.
func plainRead(k *kernel.Kernel, word string) ([]log.Record, int, api.Errno) {
	var l []log.Record
	at := 0
	var read func(p []int) api.Errno
	read = func(p []int) api.Errno {
		if at == len(word) {
			return api.ErrShort
		}
		kind := strings.IndexByte("pbl", word[at]) + 1
		if kind == 0 {
			return api.ErrSign
		}
		if kind != dive.Pruned && (kind == dive.Leaf) != (len(p) == k.Depth()) {
			return api.ErrForm
		}
		at++
		l = append(l, log.Record{Kind: kind, Path: p})
		if kind == dive.Branch {
			for _, q := range followers(k, p) {
				if e := read(q); e != api.OK {
					return e
				}
			}
		}
		return api.OK
	}
	e := read(nil)
	if e == api.OK && at < len(word) {
		e = api.ErrTail
	}
	if e != api.OK {
		return nil, at, e
	}
	return l, 0, api.OK
}

// holdWord holds Word against the plain one, and that what is passed stays as it is.
func holdWord(t *testing.T, k *kernel.Kernel, l []log.Record) {
	t.Helper()
	want, right := plainWord(k, l)
	wanted := api.OK
	if !right {
		want, wanted = "", api.ErrForm
	}
	before := copied(l)
	got, e := tree.Word(k, l)
	if got != want || e != wanted {
		t.Fatalf("Word(%v) = %q, %d, not %q, %d", l, got, e, want, wanted)
	}
	if !sameAll(l, before) {
		t.Fatalf("Word changed %v to %v", before, l)
	}
}

// holdRead holds Read against the plain one.
func holdRead(t *testing.T, k *kernel.Kernel, word string) {
	t.Helper()
	want, wantAt, wanted := plainRead(k, word)
	got, at, e := tree.Read(k, word)
	if !sameAll(got, want) || at != wantAt || e != wanted {
		t.Fatalf("Read(%q) = %v, %d, %d, not %v, %d, %d", word, got, at, e, want, wantAt, wanted)
	}
}

// both holds a complete search both ways.
func both(t *testing.T, r *rand.Rand, k *kernel.Kernel, l []log.Record) string {
	t.Helper()
	word, right := plainWord(k, l)
	if !right {
		t.Fatal("no complete search:", l)
	}
	backwards := slices.Clone(l)
	slices.Reverse(backwards)
	for _, order := range [][]log.Record{l, backwards, shuffled(r, l), shuffled(r, l), shuffled(r, l)} {
		before := copied(order)
		if got, e := tree.Word(k, order); got != word || e != api.OK {
			t.Fatalf("Word(%v) = %q, %d, not %q", order, got, e, word)
		}
		if !sameAll(order, before) {
			t.Fatalf("Word changed %v to %v", before, order)
		}
	}
	ordered := slices.SortedFunc(slices.Values(l), func(a, b log.Record) int { return slices.Compare(a.Path, b.Path) })
	if got, at, e := tree.Read(k, word); !sameAll(got, ordered) || at != 0 || e != api.OK {
		t.Fatalf("Read(%q) = %v, %d, %d, not %v", word, got, at, e, ordered)
	}
	return word
}
