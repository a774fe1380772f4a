package check_test

import (
	"go/parser"
	"go/token"
	"math/rand"
	"os"
	"slices"
	"strconv"
	"strings"
	"testing"

	"kurgan/api"
	"kurgan/cert"
	"kurgan/check"
	"kurgan/inst"
	"kurgan/kernel"
	"kurgan/value"
)

// wordWith is a search of a prefix and what is below it in which another one alone is pruned.
func wordWith(k *kernel.Kernel, p, pruned []int) string {
	if slices.Equal(p, pruned) {
		return "p"
	}
	if len(p) == k.Depth() {
		return "l"
	}
	var text strings.Builder
	text.WriteString("b")
	for _, q := range followers(k, p) {
		text.WriteString(wordWith(k, q, pruned))
	}
	return text.String()
}

// even is a problem all of whose solutions cost the same, and all Bounds as much.
func even(kind, n, number int) api.Instance {
	if kind == api.Knapsack {
		return knapsack(api.MaxEntry, slices.Repeat([]int{1}, n), make([]int, n))
	}
	i := square(kind)
	for row := range n {
		costs := slices.Repeat([]int{number}, n)
		if kind == api.Tour {
			costs[row] = 0
		}
		i.Cost = append(i.Cost, costs)
	}
	i.N = n
	return i
}

// greatest: problems of the greatest size, with the greatest numbers and with smaller ones.
func greatest(r *rand.Rand) []api.Instance {
	all := []api.Instance{
		knapsack(api.MaxEntry, slices.Repeat([]int{api.MaxEntry}, 64), slices.Repeat([]int{api.MaxEntry}, 64)),
		knapsack(api.MaxEntry, make([]int, 64), slices.Repeat([]int{api.MaxEntry}, 64)),
		knapsack(0, slices.Repeat([]int{1}, 64), slices.Repeat([]int{api.MaxEntry}, 64)),
		even(2, 24, api.MaxEntry), even(3, 24, api.MaxEntry), even(2, 24, 0), even(3, 24, 0),
	}
	for kind := 1; kind <= 3; kind++ {
		for _, most := range []int{3, 1000, api.MaxEntry} {
			n := 24
			if kind == api.Knapsack {
				n = 64
			}
			all = append(all, drawn(r, kind, n, most), drawn(r, kind, n, most), drawn(r, kind, n, most))
		}
	}
	return all
}

// Trees of few letters, and longer ones that end too early, of problems of the greatest size.
func TestGreatestProblems(t *testing.T) {
	r := rand.New(rand.NewSource(341))
	few := texts(4, "pblx")
	for _, i := range greatest(r) {
		k := kernelOf(i)
		x := value.Plain(i)
		worth, _ := value.Value(i, x)
		for _, text := range few {
			hold(t, i, cert.Cert{Value: worth, X: x, Tree: text})
		}
		for range 20 {
			text := strings.Repeat("b", 1+r.Intn(k.Depth()))
			for range r.Intn(60) {
				text += string("ppppbl"[r.Intn(6)])
			}
			hold(t, i, cert.Cert{Value: worth, X: x, Tree: text})
		}
		hold(t, i, cert.Cert{Value: worth, X: x, Tree: strings.Repeat("b", k.Depth()) + "l"})
		hold(t, i, cert.Cert{Value: worth + 1, X: x, Tree: "p"})
		hold(t, i, cert.Cert{Value: worth, X: append(slices.Clone(x), 0), Tree: "p"})
		hold(t, i, cert.Cert{Value: worth, X: x[1:], Tree: "p"})
	}
	for _, c := range []struct {
		i     api.Instance
		worth int
		taken int
	}{
		{knapsack(api.MaxEntry, make([]int, 64), slices.Repeat([]int{api.MaxEntry}, 64)), 64 * api.MaxEntry, 1},
		{knapsack(0, slices.Repeat([]int{1}, 64), slices.Repeat([]int{api.MaxEntry}, 64)), 0, 0},
	} {
		x := slices.Repeat([]int{c.taken}, 64)
		refused(t, c.i, cert.Cert{Value: c.worth, X: x, Tree: "p"}, api.OK)
		refused(t, c.i, cert.Cert{Value: c.worth - 1, X: x, Tree: "p"}, api.ErrFalse)
	}
	for kind := 2; kind <= 3; kind++ {
		i := even(kind, 24, api.MaxEntry)
		refused(t, i, cert.Cert{Value: 24 * api.MaxEntry, X: value.Plain(i), Tree: "p"}, api.OK)
	}
}

// sizer makes a search of so many letters, which goes on as long as there are some left for all Kids.
type sizer struct {
	k    *kernel.Kernel
	left int // letters
	skip int // so many prefixes with one Kid are pruned
	text []byte
}

func (s *sizer) add(p []int) {
	kids, _ := s.k.Kids(p)
	switch {
	case len(p) == s.k.Depth():
		s.text = append(s.text, 'l')
	case len(kids) > s.left:
		s.text = append(s.text, 'p')
	case len(kids) == 1 && s.skip > 0:
		s.skip--
		s.text = append(s.text, 'p')
	default:
		s.left -= len(kids)
		s.text = append(s.text, 'b')
		for _, q := range followers(s.k, p) {
			s.add(q)
		}
	}
}

// sized is a complete search of just so many letters.
func sized(k *kernel.Kernel, letters int) string {
	for skip := 0; ; skip++ {
		s := sizer{k: k, left: letters - 1, skip: skip}
		s.add(nil)
		if s.left == 0 {
			return string(s.text)
		}
	}
}

func TestLongTrees(t *testing.T) {
	const most = 1048576
	for kind, n := range map[int]int{1: 64, 2: 24, 3: 24} {
		i := even(kind, n, 1000)
		if kind == api.Knapsack {
			i.Weight[63], i.Cap = 1000, 500 // an item that doesn't fit: else no search has an even number of letters
		}
		text := sized(kernelOf(i), most)
		if len(text) != most {
			t.Fatal(kind, len(text))
		}
		x := value.Plain(i)
		worth, _ := value.Value(i, x)
		for _, c := range []struct {
			text string
			e    api.Errno
		}{
			{text, api.OK}, {text[:most-1], api.ErrShort}, {text[:most/2], api.ErrShort}, {text + "p", api.ErrTail}, {text + text, api.ErrTail},
			{text[:most-1] + "x", api.ErrSign}, {text[:most/2] + "x" + text[most/2+1:], api.ErrSign}, {text[:most-1] + "l", api.ErrForm},
		} {
			refused(t, i, cert.Cert{Value: worth, X: x, Tree: c.text}, c.e)
		}
	}
}

// A Tree may be longer than a Cert is that has a text.
func TestLongerTrees(t *testing.T) {
	const most = 1048576
	i := even(1, 21, 0)
	text := "p"
	for range 20 {
		text = "b" + text + text
	}
	refused(t, i, cert.Cert{X: make([]int, 21), Tree: text}, api.OK)
	refused(t, i, cert.Cert{X: make([]int, 21), Tree: text[:len(text)-1]}, api.ErrShort)
	if len(text) <= most {
		t.Error(len(text))
	}
}

// Neither the problem nor the certificate is changed, nor what stands behind its lists.
func TestArgumentsStay(t *testing.T) {
	r := rand.New(rand.NewSource(342))
	small(r, 5, func(i api.Instance) {
		c := proof(i, sometimes(r))
		room := append(slices.Clone(c.X), 71, 72)
		c.X = room[:len(c.X)]
		kept, keptRoom, keptTree := inst.Copy(i), slices.Clone(room), strings.Clone(c.Tree)
		lists := append(slices.Clone(i.Cost), i.Weight, i.Value)
		for at, l := range lists {
			lists[at] = append(slices.Clone(l), 73)
		}
		given := api.Instance{Kind: i.Kind, N: i.N, Cap: i.Cap}
		if i.Kind == api.Knapsack {
			given.Weight, given.Value = lists[0][:i.N], lists[1][:i.N]
		} else {
			for row := range i.N {
				given.Cost = append(given.Cost, lists[row][:i.N])
			}
		}
		for _, text := range []string{c.Tree, "", "p", c.Tree + "p"} {
			c.Tree = text
			check.Check(given, c)
		}
		if !inst.Same(given, kept) || !slices.Equal(room, keptRoom) {
			t.Fatal("changed:", given, room)
		}
		for _, l := range lists {
			if l[len(l)-1] != 73 {
				t.Fatal("changed behind the end:", l)
			}
		}
		c.Tree = keptTree
		if e := check.Check(given, c); e != api.OK {
			t.Fatal("another answer:", given, c, e)
		}
	})
}

// check shares nothing with the solver but api, arith and inst.
func TestImports(t *testing.T) {
	allowed := []string{"kurgan/api", "kurgan/arith", "kurgan/inst", "kurgan/cert"}
	files, err := os.ReadDir(".")
	if err != nil {
		t.Fatal(err)
	}
	read := 0
	for _, file := range files {
		if !strings.HasSuffix(file.Name(), ".go") || strings.HasSuffix(file.Name(), "_test.go") {
			continue
		}
		parsed, err := parser.ParseFile(token.NewFileSet(), file.Name(), nil, parser.ImportsOnly)
		if err != nil {
			t.Fatal(err)
		}
		for _, one := range parsed.Imports {
			read++
			if path, _ := strconv.Unquote(one.Path.Value); strings.HasPrefix(path, "kurgan/") && !slices.Contains(allowed, path) {
				t.Error(file.Name(), "imports", path)
			}
		}
	}
	if read < 4 {
		t.Error("so few imports:", read)
	}
}
