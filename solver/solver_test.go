package solver_test

import (
	"math"
	"math/big"
	"math/rand"
	"slices"
	"testing"

	"kurgan/api"
	"kurgan/greedy"
	"kurgan/heap"
	"kurgan/kernel"
	"kurgan/solver"
	"kurgan/tape"
	"kurgan/value"
)

var (
	pair  = square(2, []int{1, 2}, []int{3, 9})
	three = solver.Config{Workers: 3, Slots: 4, Levels: 2}
)

// notInForm is problems with the errors that inst.Check tells.
func notInForm() map[api.Errno][]api.Instance {
	return map[api.Errno][]api.Instance{
		api.ErrKind: {{}, {Kind: 4, N: 1}, {Kind: -1}, {Kind: math.MaxInt, N: 999}},
		api.ErrArg: {
			{Kind: 1}, {Kind: 2, N: -1}, {Kind: 3, N: math.MinInt},
			knapsack(-1, []int{1}, []int{1}), knapsack(1, []int{-1}, []int{1}), square(2, []int{-1}),
		},
		api.ErrBig: {
			{Kind: 1, N: 65}, {Kind: 2, N: 25}, {Kind: 3, N: 25}, {Kind: 2, N: math.MaxInt},
			knapsack(api.MaxEntry+1, []int{1}, []int{1}), square(2, []int{api.MaxEntry + 1}),
		},
		api.ErrForm: {
			{Kind: 1, N: 1}, {Kind: 2, N: 1}, {Kind: 3, N: 2, Cost: [][]int{{0, 1}, {1}}},
			{Kind: 2, N: 1, Cost: [][]int{{1}}, Cap: 1}, square(3, []int{1}),
		},
	}
}

func TestNewErrors(t *testing.T) {
	some := tape.New(nil, nil)
	for want, problems := range notInForm() {
		for _, i := range problems {
			for _, c := range []solver.Config{three, {}, {17, 4097, 7}} {
				for _, p := range []*tape.Tape{some, nil} {
					if m, e := solver.New(i, c, p); m != nil || e != want {
						t.Error(i, c, p, m, e, want)
					}
				}
				if n := solver.Bound(i, c); n != 0 {
					t.Error("Bound", i, c, n)
				}
			}
		}
	}
	if m, e := solver.New(pair, three, nil); m != nil || e != api.ErrArg {
		t.Error("nil tape", m, e)
	}
}

// Each of a Config's numbers at its limits and one beyond them.
func TestConfigs(t *testing.T) {
	for _, n := range []int{math.MinInt, -1, 0, 1, 2, 3, 6, 7, 16, 17, 4096, 4097, math.MaxInt} {
		for field, most := range map[string]int{"Workers": 16, "Slots": 4096, "Levels": 6} {
			c := three
			switch field {
			case "Workers":
				c.Workers = n
			case "Slots":
				c.Slots = n
			default:
				c.Levels = n
			}
			m, e := solver.New(pair, c, tape.New(nil, nil))
			if n < 1 || n > most {
				if m != nil || e != api.ErrArg || solver.Bound(pair, c) != 0 {
					t.Error(c, m, e, solver.Bound(pair, c))
				}
				continue
			}
			if e != api.OK || len(m.Workers()) != c.Workers || len(m.Heaps()) != c.Workers || m.Pool().Slots() != c.Slots || m.Heaps()[c.Workers-1].Places() != 1<<c.Levels-1 {
				t.Fatal(c, e)
			}
			if !m.All(100000) || m.Result().Cost != 5 {
				t.Error(c, m.Result())
			}
		}
	}
}

func TestNewMachine(t *testing.T) {
	r := rand.New(rand.NewSource(271))
	for range 200 {
		i, c := someProblem(r), someConfig(r)
		m := made(t, i, c, nil, nil)
		x, cost, _ := greedy.Start(i)
		worth, _ := value.Value(i, x)
		if got := m.Result(); !sameResult(got, solver.Result{Status: solver.Unfinished, X: x, Cost: cost, Value: worth}) {
			t.Fatal(i, got)
		}
		if m.Open() != 1 || len(m.Met()) != 0 || !slices.Equal(m.Picks(), make([]int, c.Workers)) {
			t.Fatal(i, m.Open(), m.Met(), m.Picks())
		}
		for who, h := range m.Heaps() {
			if queued := slices.Concat(h.Lists()...); who == 0 && len(queued) != 1 || who > 0 && len(queued) > 0 {
				t.Fatal(who, queued)
			}
		}
		root := m.Pool().Node(slices.Concat(m.Heaps()[0].Lists()...)[0])
		k, _ := kernel.Of(i)
		if bound, _ := k.Bound(nil); len(root.Path) != 0 || root.Bound != bound {
			t.Fatal(root)
		}
		if m.Memory().Size() < heap.Cells(c.Levels, c.Slots)*c.Workers {
			t.Fatal(m.Memory().Size())
		}
	}
}

func TestPick(t *testing.T) {
	m := made(t, pair, three, []int{1, 1}, nil)
	for _, who := range []int{math.MinInt, -1, 3, 4, math.MaxInt} {
		if e := m.Pick(who); e != api.ErrArg {
			t.Error(who, e)
		}
	}
	if !slices.Equal(m.Picks(), []int{0, 0, 0}) {
		t.Error(m.Picks())
	}
	for who := range 3 {
		for range 500 {
			if e := m.Pick(who); e != api.OK {
				t.Fatal(who, e)
			}
		}
	}
	steps := m.Memory().Steps()
	if e := m.Pick(1); e != api.OK || !m.Workers()[1].Halted() || m.Memory().Steps() != steps {
		t.Error("of one that has halted", e)
	}
	if !slices.Equal(m.Picks(), []int{500, 501, 500}) || m.Result().Status != solver.Done {
		t.Error(m.Picks(), m.Result())
	}
}

// Run picks those whom the tape names: what Pick does for them by hand.
func TestRun(t *testing.T) {
	i := hard()
	r := rand.New(rand.NewSource(273))
	for range 30 {
		c, picks, draws := someConfig(r), someNumbers(r, 300), someNumbers(r, 300)
		m, other := made(t, i, c, picks, draws), made(t, i, c, nil, draws)
		names := tape.New(picks, nil)
		for _, times := range []int{0, -1, math.MinInt, 1, 2, 7, 0, 300, -5} {
			m.Run(times)
			for range times {
				other.Pick(names.Pick(c.Workers))
			}
			if !sameMachine(m, other) {
				t.Fatal(c, times, m.Picks(), other.Picks())
			}
		}
	}
}

// Run makes all its picks, also when all have halted.
func TestRunBehindTheEnd(t *testing.T) {
	p := tape.New([]int{5, -1}, nil)
	m, _ := solver.New(pair, solver.Config{Workers: 2, Slots: 1, Levels: 1}, p)
	m.Run(3000000)
	if picks, _ := p.Used(); picks != 3000000 || !slices.Equal(m.Picks(), []int{1499999, 1500001}) || m.Result().Status != solver.Done {
		t.Error(picks, m.Picks(), m.Result())
	}
}

// All picks as long as the machine is not done.
func TestAll(t *testing.T) {
	r := rand.New(rand.NewSource(274))
	for range 60 {
		i, c, picks, draws := someProblem(r), someConfig(r), someNumbers(r, 300), someNumbers(r, 300)
		m, other := made(t, i, c, picks, draws), made(t, i, c, picks, draws)
		for _, most := range []int{0, -1, math.MinInt} {
			if m.All(most) || !sameMachine(m, other) {
				t.Fatal("All", most)
			}
		}
		made := 0
		for other.Result().Status != solver.Done {
			other.Run(1)
			made++
		}
		if m.All(made - 1) {
			t.Fatal("done too early")
		}
		if !m.All(math.MaxInt) || !sameMachine(m, other) {
			t.Fatal("not as Run does it", m.Picks(), other.Picks())
		}
		if !m.All(math.MaxInt) || !m.All(0) || !m.All(-3) || !sameMachine(m, other) {
			t.Fatal("picked behind the end")
		}
	}
}

// bound is the chapter's, of numbers of any size.
func bound(count *big.Int, c solver.Config, n int) int {
	b := new(big.Int).Add(count, big.NewInt(2))
	for _, factor := range []int{100, c.Workers, 1<<c.Levels - 1 + n + 20} {
		b.Mul(b, big.NewInt(int64(factor)))
	}
	if !b.IsInt64() {
		return math.MaxInt
	}
	return int(b.Int64())
}

// prefixes counts them, whatever their number is.
func prefixes(i api.Instance) *big.Int {
	if i.Kind == api.Knapsack {
		b := new(big.Int).Lsh(big.NewInt(1), uint(i.N+1))
		return b.Sub(b, big.NewInt(1))
	}
	depth := int64(i.N)
	if i.Kind == api.Tour {
		depth--
	}
	sum, product := big.NewInt(1), big.NewInt(1)
	for m := range depth {
		product.Mul(product, big.NewInt(depth-m))
		sum.Add(sum, product)
	}
	return sum
}

func TestBound(t *testing.T) {
	r := rand.New(rand.NewSource(275))
	limited, plain := 0, 0
	for kind, most := range map[int]int{1: 64, 2: 24, 3: 24} {
		for n := 1; n <= most; n++ {
			for _, c := range []solver.Config{{1, 1, 1}, {2, 4096, 6}, {16, 64, 6}, {16, 1, 1}, {3, 7, 4}} {
				i := drawn(r, kind, n, 50)
				want := bound(prefixes(i), c, n)
				if got := solver.Bound(i, c); got != want {
					t.Error(kind, n, c, got, want)
				}
				if want == math.MaxInt {
					limited++
				} else {
					plain++
				}
			}
		}
	}
	if limited < 20 || plain < 200 {
		t.Error(limited, plain)
	}
	if got := solver.Bound(pair, solver.Config{Workers: 2, Slots: 9, Levels: 3}); got != 7*100*2*29 {
		t.Error(got)
	}
}

func TestNilAndZero(t *testing.T) {
	var none *solver.Machine
	for _, m := range []*solver.Machine{none, {}} {
		if e := m.Pick(0); e != api.ErrArg {
			t.Error(e)
		}
		m.Run(5)
		m.Run(math.MaxInt)
		if m.All(5) || m.All(math.MaxInt) || m.All(0) || !sameResult(m.Result(), solver.Result{}) || m.Open() != 0 {
			t.Error(m.Result(), m.Open())
		}
		if len(m.Picks())+len(m.Met())+len(m.Heaps())+len(m.Workers()) > 0 || m.Memory() != nil || m.Pool() != nil {
			t.Error("parts of no machine")
		}
	}
}

// Results are newly allocated.
func TestResultsAreNew(t *testing.T) {
	m, other := made(t, hard(), three, nil, nil), made(t, hard(), three, nil, nil)
	for range 40 {
		m.Run(25)
		other.Run(25)
		clear(m.Result().X)
		_ = append(m.Result().X[:0], 99)
		clear(m.Picks())
		clear(m.Heaps())
		clear(m.Workers())
		for _, record := range m.Met() {
			clear(record.Path)
		}
		clear(m.Met())
		if slices.Contains(m.Heaps(), nil) || slices.Contains(m.Workers(), nil) || !sameMachine(m, other) {
			t.Fatal("a result shares memory with the machine")
		}
	}
}

// The parts are those of the machine, not copies.
func TestParts(t *testing.T) {
	m := made(t, hard(), three, nil, nil)
	if m.Memory() != m.Memory() || m.Pool() != m.Pool() || !slices.Equal(m.Heaps(), m.Heaps()) || !slices.Equal(m.Workers(), m.Workers()) {
		t.Error("copies")
	}
	before := m.Memory().Steps()
	_, _, _, _ = m.Open(), m.Result(), m.Met(), m.Picks()
	if m.Memory().Steps() != before {
		t.Error("what is told makes steps")
	}
	m.Pick(0)
	if m.Memory().Steps() != before+1 || m.Workers()[0].Log().Len() != len(m.Met()) {
		t.Error(before, m.Memory().Steps())
	}
}
