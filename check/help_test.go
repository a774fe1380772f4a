package check_test

import (
	"math/rand"
	"slices"
	"strings"
	"testing"

	"kurgan/api"
	"kurgan/cert"
	"kurgan/check"
	"kurgan/exact"
	"kurgan/gen"
	"kurgan/kernel"
	"kurgan/tree"
	"kurgan/value"
)

func knapsack(room int, weight, worth []int) api.Instance {
	return api.Instance{Kind: 1, N: len(weight), Cap: room, Weight: weight, Value: worth}
}

func square(kind int, rows ...[]int) api.Instance {
	return api.Instance{Kind: kind, N: len(rows), Cost: rows}
}

// drawn is a problem of a kind with numbers up to most; every other Tour is symmetric.
func drawn(r *rand.Rand, kind, n, most int) api.Instance {
	i, _ := gen.Make(kind, n, most, r.Uint64())
	switch {
	case kind == api.Knapsack:
		i.Cap = r.Intn(min(n*most/2+1, api.MaxEntry))
	case kind == api.Tour && r.Intn(2) == 0:
		for a := range n {
			for b := range a {
				i.Cost[a][b] = i.Cost[b][a]
			}
		}
	}
	return i
}

// small calls visit for problems of each kind, with few and with the greatest numbers.
func small(r *rand.Rand, size int, visit func(i api.Instance)) {
	for kind := 1; kind <= 3; kind++ {
		for n := 1; n <= size; n++ {
			for _, most := range []int{1, 3, 50, api.MaxEntry} {
				visit(drawn(r, kind, n, most))
			}
		}
	}
}

func kernelOf(i api.Instance) *kernel.Kernel {
	k, _ := kernel.Of(i)
	return k
}

// followers: the prefixes with one number more, rising.
func followers(k *kernel.Kernel, p []int) [][]int {
	kids, _ := k.Kids(p)
	slices.Sort(kids)
	var l [][]int
	for _, kid := range kids {
		l = append(l, append(slices.Clone(p), kid))
	}
	return l
}

// plain is the chapter's Check, by the costs and bounds of the layers 8 and 11 to 14.
func plain(i api.Instance, c cert.Cert) api.Errno {
	cost, e := value.Cost(i, c.X)
	switch {
	case e != api.OK:
		return e
	case value.Of(i, cost) != c.Value:
		return api.ErrFalse
	}
	k, at := kernelOf(i), 0
	var read func(p []int) api.Errno
	read = func(p []int) api.Errno {
		if at == len(c.Tree) {
			return api.ErrShort
		}
		letter := c.Tree[at]
		at++
		bound, _ := k.Bound(p)
		whole := len(p) == k.Depth()
		switch {
		case !strings.Contains("pbl", string(rune(letter))):
			return api.ErrSign
		case letter == 'l' && !whole, letter == 'b' && whole:
			return api.ErrForm
		case letter != 'b' && bound < cost:
			return api.ErrFalse
		case letter == 'b':
			for _, q := range followers(k, p) {
				if e := read(q); e != api.OK {
					return e
				}
			}
		}
		return api.OK
	}
	if e := read(nil); e != api.OK {
		return e
	}
	if at < len(c.Tree) {
		return api.ErrTail
	}
	return api.OK
}

// hold holds Check against the plain one; and of what it accepts no solution is better.
func hold(t *testing.T, i api.Instance, c cert.Cert) api.Errno {
	t.Helper()
	e := check.Check(i, c)
	if want := plain(i, c); e != want {
		t.Fatalf("Check(%v, %.300v) = %d, not %d", i, c, e, want)
	}
	if e != api.OK {
		return e
	}
	cost, _ := value.Cost(i, c.X)
	if _, lowest, e := exact.Best(i); e == api.OK && cost != lowest {
		t.Fatalf("Check(%v, %v) accepts a cost of %d, but there is one of %d", i, c, cost, lowest)
	}
	return api.OK
}

// best is a best solution of a small problem, its value and its cost.
func best(i api.Instance) (x []int, worth, cost int) {
	x, cost, _ = exact.Best(i)
	return x, value.Of(i, cost), cost
}

// word is a complete search of a prefix and what is below it, which prunes what may be pruned if cut says so.
func word(k *kernel.Kernel, p []int, cost int, cut func(p []int) bool) string {
	bound, _ := k.Bound(p)
	switch {
	case bound >= cost && cut(p):
		return "p"
	case len(p) == k.Depth():
		return "l"
	}
	text := "b"
	for _, q := range followers(k, p) {
		text += word(k, q, cost, cut)
	}
	return text
}

func never([]int) bool { return false }

func always([]int) bool { return true }

func sometimes(r *rand.Rand) func([]int) bool { return func([]int) bool { return r.Intn(2) == 0 } }

// proof is a certificate that is right.
func proof(i api.Instance, cut func(p []int) bool) cert.Cert {
	x, worth, cost := best(i)
	return cert.Cert{Value: worth, X: x, Tree: word(kernelOf(i), nil, cost, cut)}
}

// solutions: all of a small problem.
func solutions(i api.Instance) [][]int {
	k := kernelOf(i)
	var all [][]int
	var visit func(p []int)
	visit = func(p []int) {
		if x, e := k.Answer(p); e == api.OK {
			all = append(all, x)
		}
		for _, q := range followers(k, p) {
			visit(q)
		}
	}
	visit(nil)
	return all
}

// texts: all of up to so many letters.
func texts(length int, letters string) []string {
	all, last := []string{""}, []string{""}
	for range length {
		var longer []string
		for _, text := range last {
			for _, letter := range letters {
				longer = append(longer, text+string(letter))
			}
		}
		all, last = append(all, longer...), longer
	}
	return all
}

// refused: is a certificate's error the one that is wanted?
func refused(t *testing.T, i api.Instance, c cert.Cert, want api.Errno) {
	t.Helper()
	if e := check.Check(i, c); e != want {
		t.Errorf("Check(%v, %.200v) = %d, not %d", i, c, e, want)
	}
}

// readable: a Tree whose letters are those of a complete search.
func readable(i api.Instance, text string) bool {
	_, _, e := tree.Read(kernelOf(i), text)
	return e == api.OK
}
