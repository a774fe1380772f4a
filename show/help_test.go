package show_test

import (
	"fmt"
	"math/rand"
	"slices"
	"strings"

	"kurgan/api"
	"kurgan/dive"
	"kurgan/gen"
	"kurgan/kernel"
	"kurgan/log"
)

// drawn is a problem of a kind with numbers below top.
func drawn(r *rand.Rand, kind, n, top int) api.Instance {
	i, _ := gen.Make(kind, n, top-1, r.Uint64())
	if kind == api.Knapsack {
		i.Cap = min(r.Intn(n*top/2+1), api.MaxEntry)
	}
	return i
}

// small calls visit for problems of each kind.
func small(r *rand.Rand, visit func(i api.Instance, k *kernel.Kernel)) {
	for kind := 1; kind <= 3; kind++ {
		for n := 1; n <= 5; n++ {
			for _, top := range []int{1, 2, 12, 1000, 1 << 31} {
				i := drawn(r, kind, n, top)
				k, _ := kernel.Of(i)
				visit(i, k)
			}
		}
	}
}

// searched is a complete search in place, from a least cost on.
func searched(k *kernel.Kernel, least int) []log.Record {
	var l []log.Record
	d, _ := dive.New(k, nil)
	for {
		e, there := d.Step(least)
		if !there {
			return l
		}
		if e.Kind == dive.Leaf {
			least = e.Cost
		}
		l = append(l, log.Record{Kind: e.Kind, Path: e.Path})
	}
}

// prefixes are all that there are.
func prefixes(k *kernel.Kernel, p []int) [][]int {
	l := [][]int{p}
	kids, _ := k.Kids(p)
	for _, kid := range kids {
		l = append(l, prefixes(k, append(slices.Clone(p), kid))...)
	}
	return l
}

// shuffled is the records in another order.
func shuffled(r *rand.Rand, l []log.Record) []log.Record {
	all := slices.Clone(l)
	r.Shuffle(len(all), func(a, b int) { all[a], all[b] = all[b], all[a] })
	return all
}

func copied(l []log.Record) []log.Record {
	var all []log.Record
	for _, r := range l {
		all = append(all, log.Record{Kind: r.Kind, Path: slices.Clone(r.Path)})
	}
	return all
}

func sameRecords(a, b []log.Record) bool {
	return slices.EqualFunc(a, b, func(x, y log.Record) bool { return x.Kind == y.Kind && slices.Equal(x.Path, y.Path) })
}

// plainLine is the chapter's Line of a record that has one.
func plainLine(k *kernel.Kernel, r log.Record) string {
	bound, _ := k.Bound(r.Path)
	last := "root"
	for _, n := range r.Path {
		last = fmt.Sprint(n)
	}
	return fmt.Sprintf("%*s%s %s at %d", 2*len(r.Path), "", last, []string{"pruned", "branch", "leaf"}[r.Kind-1], bound)
}

// plainTree is the chapter's Tree of a complete search.
func plainTree(k *kernel.Kernel, l []log.Record, depth int) string {
	ordered := slices.Clone(l)
	slices.SortFunc(ordered, func(a, b log.Record) int { return slices.Compare(a.Path, b.Path) })
	var lines strings.Builder
	for _, r := range ordered {
		if len(r.Path) <= depth {
			lines.WriteString(plainLine(k, r) + "\n")
		}
	}
	return lines.String()
}

// plainTable is the chapter's Table of a valid problem.
func plainTable(i api.Instance) string {
	rows := i.Cost
	for item, weight := range i.Weight {
		rows = append(rows, []int{weight, i.Value[item]})
	}
	width := 0
	for _, row := range rows {
		for _, n := range row {
			width = max(width, len(fmt.Sprint(n)))
		}
	}
	text := ""
	for _, row := range rows {
		for at, n := range row {
			text += fmt.Sprintf("%*d%s", width, n, map[bool]string{true: "\n", false: " "}[at == len(row)-1])
		}
	}
	return text
}

// lists calls visit for all lists of so many numbers from 0 to below another one.
func lists(n, below int, visit func([]int)) {
	x := make([]int, n)
	var from func(at int)
	from = func(at int) {
		if at == n {
			visit(x)
			return
		}
		for k := range below {
			x[at] = k
			from(at + 1)
		}
	}
	from(0)
}
