package inst_test

import (
	"fmt"
	"math"
	"math/rand"
	"strings"
	"testing"

	"kurgan/api"
	"kurgan/inst"
)

func list(n int, number func(k int) int) []int {
	l := []int{}
	for k := range n {
		l = append(l, number(k))
	}
	return l
}

func knapsack(n, room int, number func(k int) int) api.Instance {
	return api.Instance{Kind: 1, N: n, Cap: room, Weight: list(n, number), Value: list(n, func(k int) int { return number(n + k) })}
}

func square(kind, n int, number func(a, b int) int) api.Instance {
	i := api.Instance{Kind: kind, N: n}
	for a := range n {
		i.Cost = append(i.Cost, list(n, func(b int) int {
			if kind == 3 && a == b {
				return 0
			}
			return number(a, b)
		}))
	}
	return i
}

// small is a problem of a kind and a size, with numbers that tell their places.
func small(kind, n int) api.Instance {
	if kind == 1 {
		return knapsack(n, 1000+n, func(k int) int { return k + 1 })
	}
	return square(kind, n, func(a, b int) int { return 100*a + b + 1 })
}

func TestSizes(t *testing.T) {
	if inst.Check(api.Instance{}) != api.ErrKind {
		t.Error("the zero problem")
	}
	for kind := -1; kind <= 5; kind++ {
		most := 24
		if kind == 1 {
			most = 64
		}
		for n := range 70 {
			want := api.OK
			switch {
			case kind < 1 || kind > 3:
				want = api.ErrKind
			case n < 1:
				want = api.ErrArg
			case n > most:
				want = api.ErrBig
			}
			if e := inst.Check(small(kind, n)); e != want {
				t.Errorf("kind %d, n %d: %d, not %d", kind, n, e, want)
			}
		}
		for _, n := range []int{math.MinInt, -1, 25, 65, math.MaxInt} {
			want := api.ErrBig
			switch {
			case kind < 1 || kind > 3:
				want = api.ErrKind
			case n < 1:
				want = api.ErrArg
			case n == 25 && kind == 1:
				want = api.ErrForm
			}
			if e := inst.Check(api.Instance{Kind: kind, N: n, Cap: -1, Value: []int{-1}}); e != want {
				t.Errorf("kind %d, n %d without lists: %d, not %d", kind, n, e, want)
			}
		}
	}
}

func TestForms(t *testing.T) {
	for name, change := range map[string]func(i *api.Instance){
		"a weight too few":    func(i *api.Instance) { i.Weight = i.Weight[1:] },
		"a weight too many":   func(i *api.Instance) { i.Weight = append(i.Weight, 0) },
		"a value too few":     func(i *api.Instance) { i.Value = i.Value[:1] },
		"a value too many":    func(i *api.Instance) { i.Value = append(i.Value, 0) },
		"no lists":            func(i *api.Instance) { i.Weight, i.Value = nil, nil },
		"costs":               func(i *api.Instance) { i.Cost = [][]int{{0, 1}, {1, 0}} },
		"a cost without rows": func(i *api.Instance) { i.Cost = [][]int{nil} },
		"a bad number beside": func(i *api.Instance) { i.Cap, i.Value = -1, i.Value[1:] },
	} {
		i := small(1, 2)
		change(&i)
		if e := inst.Check(i); e != api.ErrForm {
			t.Error(name, e)
		}
	}
	for name, change := range map[string]func(i *api.Instance){
		"a row too few":       func(i *api.Instance) { i.Cost = i.Cost[:1] },
		"a row too many":      func(i *api.Instance) { i.Cost = append(i.Cost, []int{0, 0}) },
		"a number too few":    func(i *api.Instance) { i.Cost[1] = i.Cost[1][:1] },
		"a number too many":   func(i *api.Instance) { i.Cost[1] = append(i.Cost[1], 0) },
		"first row too short": func(i *api.Instance) { i.Cost[0] = nil },
		"no costs":            func(i *api.Instance) { i.Cost = nil },
		"room":                func(i *api.Instance) { i.Cap = 1 },
		"negative room":       func(i *api.Instance) { i.Cap = -1 },
		"weights":             func(i *api.Instance) { i.Weight = []int{0} },
		"values":              func(i *api.Instance) { i.Value = []int{0} },
		"a bad number before": func(i *api.Instance) { i.Cost[0][1], i.Cost[1] = -1, nil },
		"a big number before": func(i *api.Instance) { i.Cost[0][0], i.Value = 1<<31, []int{1, 1} },
		"weights and values":  func(i *api.Instance) { i.Weight, i.Value = []int{1, 1}, []int{1, 1} },
	} {
		for kind := 2; kind <= 3; kind++ {
			i := small(kind, 2)
			change(&i)
			if e := inst.Check(i); e != api.ErrForm {
				t.Error(kind, name, e)
			}
		}
	}
	for kind := 1; kind <= 3; kind++ {
		i := small(kind, 2)
		if kind == 1 {
			i.Cost = [][]int{}
		} else {
			i.Weight, i.Value = []int{}, []int{}
		}
		if e := inst.Check(i); e != api.OK {
			t.Error("empty lists in place of none:", kind, e)
		}
	}
}

// places: all numbers of a problem, in the order in which Check looks at them, and which of them are a city's with itself.
func places(i api.Instance) (l []*int, self []bool) {
	if i.Kind == 1 {
		return nil, nil
	}
	for a := range i.Cost {
		for b := range i.Cost[a] {
			l, self = append(l, &i.Cost[a][b]), append(self, i.Kind == 3 && a == b)
		}
	}
	return l, self
}

func itemPlaces(i *api.Instance) []*int {
	l := []*int{&i.Cap}
	for k := range i.N {
		l = append(l, &i.Weight[k], &i.Value[k])
	}
	return l
}

func numberFault(n int, self bool) api.Errno {
	switch {
	case n < 0:
		return api.ErrArg
	case n > 2147483647:
		return api.ErrBig
	case self && n != 0:
		return api.ErrForm
	}
	return api.OK
}

// Each pair of places gets each pair of numbers: the first that is wrong tells.
func TestNumbers(t *testing.T) {
	numbers := []int{math.MinInt, -1, 0, 1, 2147483647, 2147483648, math.MaxInt}
	for kind := 1; kind <= 3; kind++ {
		for n := 1; n <= 3; n++ {
			i := small(kind, n)
			l, self := places(i)
			if kind == 1 {
				l = itemPlaces(&i)
				self = make([]bool, len(l))
			}
			for x := range l {
				for y := x; y < len(l); y++ {
					for _, p := range numbers {
						for _, q := range numbers {
							oldP, oldQ := *l[x], *l[y]
							*l[x] = p
							want := numberFault(p, self[x])
							if y > x {
								*l[y] = q
								if want == api.OK {
									want = numberFault(q, self[y])
								}
							}
							if e := inst.Check(i); e != want {
								t.Fatalf("%v: %d, not %d", i, e, want)
							}
							if _, e := inst.Write(i); e != want {
								t.Fatalf("Write(%v): %d, not %d", i, e, want)
							}
							*l[x], *l[y] = oldP, oldQ
						}
					}
				}
			}
		}
	}
}

// draw is any problem, rarely a valid one.
func draw(r *rand.Rand) api.Instance {
	number := func() int { return []int{-1, 0, 0, 0, 0, 1, 1, 5, 2147483647, 2147483648}[r.Intn(10)] }
	numbers := func() []int {
		if r.Intn(4) == 0 {
			return nil
		}
		return list(r.Intn(4), func(int) int { return number() })
	}
	i := api.Instance{Kind: r.Intn(5), N: r.Intn(5) - 1, Weight: numbers(), Value: numbers()}
	if r.Intn(3) == 0 {
		i.Cap = number()
	}
	for range r.Intn(4) {
		i.Cost = append(i.Cost, numbers())
	}
	return i
}

// text: what fmt tells of a problem, in which nil and empty lists are the same.
func text(i api.Instance) string { return fmt.Sprintf("%v", i) }

func TestCopyAndSame(t *testing.T) {
	r := rand.New(rand.NewSource(5))
	l := []api.Instance{{}, {Cost: [][]int{}}, {Cost: [][]int{nil}}, {Cost: [][]int{{}}}, {Cost: [][]int{nil, nil}}, {Weight: []int{}}, {Weight: []int{0}}, {Value: []int{0}}}
	for range 300 {
		l = append(l, draw(r))
	}
	for kind := 1; kind <= 3; kind++ {
		l = append(l, small(kind, 3), small(kind, 24))
	}
	for _, a := range l {
		before := text(a)
		c := inst.Copy(a)
		if text(c) != before || !inst.Same(a, c) || !inst.Same(c, a) {
			t.Fatalf("Copy(%s) = %v", before, c)
		}
		for _, b := range l {
			if got := inst.Same(a, b); got != (text(a) == text(b)) {
				t.Fatalf("Same(%v, %v) = %t", a, b, got)
			}
		}
	}
}

func TestSameSeesEachNumber(t *testing.T) {
	for kind := 1; kind <= 3; kind++ {
		i := small(kind, 3)
		c := inst.Copy(i)
		l, _ := places(c)
		l = append(l, &c.Kind, &c.N, &c.Cap)
		if kind == 1 {
			l = append(l, itemPlaces(&c)...)
		}
		for k, p := range l {
			*p++
			if inst.Same(i, c) || inst.Same(c, i) {
				t.Error(kind, k)
			}
			*p--
		}
		if !inst.Same(i, c) {
			t.Error(kind)
		}
	}
}

// own reports whether writing into a's lists, up to their capacities, leaves b as it is.
func own(a, b api.Instance) bool {
	before := text(b)
	l := append([][]int{a.Weight, a.Value}, a.Cost[:cap(a.Cost)]...)
	for _, numbers := range l {
		numbers = numbers[:cap(numbers)]
		for k := range numbers {
			numbers[k] = -77
		}
	}
	for k := range a.Cost {
		a.Cost[k] = []int{-78}
	}
	return text(b) == before
}

func TestListsOfTheirOwn(t *testing.T) {
	shared := []int{1, 2, 3, 4, 5}
	for _, i := range []api.Instance{
		small(1, 3), small(2, 3), small(3, 3), {},
		{Kind: 1, N: 2, Weight: shared[:2], Value: shared[:2], Cost: [][]int{shared[:1], shared[:3]}},
		{Kind: 2, N: 2, Cost: [][]int{shared[:0], shared[:0]}, Weight: shared[:0]},
	} {
		before := text(i)
		c := inst.Copy(i)
		l := append([][]int{c.Weight, c.Value}, c.Cost...)
		for x, numbers := range l {
			for k := range numbers {
				numbers[k] = -7
			}
			for y, others := range l {
				for _, n := range others {
					if n == -7 && y != x {
						t.Fatalf("two lists of a copy of %s share numbers", before)
					}
				}
			}
			for k := range numbers {
				numbers[k] = -8
			}
		}
		if text(i) != before {
			t.Errorf("a change of the copy changed %s into %v", before, i)
		}
		c = inst.Copy(i)
		if !own(i, c) {
			t.Error("a change of the problem changed the copy of", before)
		}
	}
	// Behind an empty list stands memory too.
	empty := inst.Copy(api.Instance{Weight: shared[:0], Cost: [][]int{shared[:0]}})
	if cap(empty.Weight) > 0 && &empty.Weight[:1][0] == &shared[0] || cap(empty.Cost[0]) > 0 && &empty.Cost[0][:1][0] == &shared[0] {
		t.Error("an empty list of a copy has the old one's memory")
	}
}

func TestArgumentsStay(t *testing.T) {
	r := rand.New(rand.NewSource(6))
	for k := range 400 {
		i := draw(r)
		if k < 72 {
			i = small(k%3+1, k/3+1)
		}
		// Spare capacity is not to be touched either.
		spare := make([]int, len(i.Weight), len(i.Weight)+3)
		copy(spare, i.Weight)
		i.Weight = spare
		rows := make([][]int, len(i.Cost), len(i.Cost)+3)
		copy(rows, i.Cost)
		i.Cost = rows
		before := fmt.Sprintf("%v %v %v", i, spare[:cap(spare)], rows[:cap(rows)])
		inst.Check(i)
		inst.Copy(i)
		inst.Same(i, i)
		inst.Mirror(i)
		inst.Write(i)
		if after := fmt.Sprintf("%v %v %v", i, spare[:cap(spare)], rows[:cap(rows)]); after != before {
			t.Fatalf("%s became %s", before, after)
		}
	}
}

func TestMirror(t *testing.T) {
	even := func(a, b int) int { return 10*min(a, b) + max(a, b) }
	for n := 1; n <= 25; n++ {
		if got := inst.Mirror(square(3, n, even)); got != (n <= 24) {
			t.Error(n, got)
		}
		if inst.Mirror(square(2, n, even)) {
			t.Error("an Assignment", n)
		}
		if inst.Mirror(small(1, n)) {
			t.Error("a Knapsack", n)
		}
	}
	for a := range 4 {
		for b := range 4 {
			i := square(3, 4, even)
			i.Cost[a][b]++
			if inst.Mirror(i) {
				t.Error("another way back, or a city with itself", a, b)
			}
			i.Cost[b][a] = i.Cost[a][b]
			if got := inst.Mirror(i); got != (a != b) {
				t.Error("both ways", a, b, got)
			}
			i.Cost[a][b], i.Cost[b][a] = -1, -1
			if inst.Mirror(i) {
				t.Error("not valid", a, b)
			}
		}
	}
	for _, i := range []api.Instance{
		{}, {Kind: 3}, {Kind: 3, N: 1}, {Kind: 3, N: 2, Cost: [][]int{{0, 1}}}, {Kind: 3, N: 2, Cost: [][]int{{0, 1}, {1}}},
		{Kind: 3, N: 1, Cap: 1, Cost: [][]int{{0}}}, {Kind: 3, N: 1, Value: []int{0}, Cost: [][]int{{0}}},
		{Kind: 3, N: math.MaxInt, Cost: [][]int{{0}}}, {Kind: 4, N: 1, Cost: [][]int{{0}}},
	} {
		if inst.Mirror(i) {
			t.Error(i)
		}
	}
}

func TestWrite(t *testing.T) {
	for _, c := range []struct {
		i    api.Instance
		want string
	}{
		{api.Instance{Kind: 1, N: 1, Cap: 5, Weight: []int{3}, Value: []int{4}}, "KNAPSACK 1 5\n3 4\n"},
		{api.Instance{Kind: 1, N: 2, Weight: []int{0, 2147483647}, Value: []int{10, 0}, Cost: [][]int{}}, "KNAPSACK 2 0\n0 10\n2147483647 0\n"},
		{api.Instance{Kind: 2, N: 1, Cost: [][]int{{7}}}, "ASSIGNMENT 1\n7\n"},
		{api.Instance{Kind: 2, N: 2, Cost: [][]int{{1, 2}, {3, 9}}, Weight: []int{}}, "ASSIGNMENT 2\n1 2\n3 9\n"},
		{api.Instance{Kind: 3, N: 1, Cost: [][]int{{0}}}, "TSP 1 FULL\n0\n"},
		{api.Instance{Kind: 3, N: 2, Cost: [][]int{{0, 7}, {7, 0}}}, "TSP 2 FULL\n0 7\n7 0\n"},
	} {
		if s, e := inst.Write(c.i); s != c.want || e != api.OK {
			t.Errorf("Write(%v) = %q, %d, not %q", c.i, s, e, c.want)
		}
	}
	for kind := 1; kind <= 3; kind++ {
		for _, n := range []int{1, 2, 23, 24, 25, 63, 64, 65} {
			i := small(kind, n)
			s, e := inst.Write(i)
			if want := inst.Check(i); e != want || (e != api.OK) != (s == "") {
				t.Fatal(kind, n, s, e, want)
			}
			if e == api.OK && s != written(i) {
				t.Errorf("Write(%v) = %q", i, s)
			}
		}
	}
}

// written is a problem's text, by fmt.
func written(i api.Instance) string {
	head := map[int]string{1: fmt.Sprintln("KNAPSACK", i.N, i.Cap), 2: fmt.Sprintln("ASSIGNMENT", i.N), 3: fmt.Sprintln("TSP", i.N, "FULL")}
	s := head[i.Kind]
	for k := range i.Weight {
		s += fmt.Sprintln(i.Weight[k], i.Value[k])
	}
	for _, row := range i.Cost {
		s += strings.Trim(fmt.Sprint(row), "[]") + "\n"
	}
	return s
}

func TestWriteErrors(t *testing.T) {
	r := rand.New(rand.NewSource(7))
	for range 5000 {
		i := draw(r)
		s, e := inst.Write(i)
		if e != inst.Check(i) || e != api.OK && s != "" || e == api.OK && s != written(i) {
			t.Fatalf("Write(%v) = %q, %d", i, s, e)
		}
	}
}

func TestName(t *testing.T) {
	want := map[int]string{1: "KNAPSACK", 2: "ASSIGNMENT", 3: "TSP"}
	for _, kind := range []int{math.MinInt, -1, 0, 1, 2, 3, 4, 5, math.MaxInt} {
		if got := inst.Name(kind); got != want[kind] {
			t.Error(kind, got)
		}
	}
}

// The errors that do not lie in numbers, each pair of them at once: the one that is told first wins.
func TestOrderOfErrors(t *testing.T) {
	faults := []struct {
		e      api.Errno
		change func(i *api.Instance)
	}{
		{api.ErrKind, func(i *api.Instance) { i.Kind = 4 }},
		{api.ErrArg, func(i *api.Instance) { i.N = 0 }},
		{api.ErrBig, func(i *api.Instance) { i.N = 65 }},
		{api.ErrForm, func(i *api.Instance) { i.Weight = append(i.Weight, 1) }},
		{api.ErrArg, func(i *api.Instance) {
			if i.Kind == 1 {
				i.Value[0] = -1
			} else {
				i.Cost[0][0] = -1
			}
		}},
	}
	for kind := 1; kind <= 3; kind++ {
		for x := range faults {
			for y := len(faults) - 1; y > x; y-- {
				i := small(kind, 2)
				faults[y].change(&i)
				faults[x].change(&i)
				if x == 1 && y == 2 { // both speak of N
					continue
				}
				if e := inst.Check(i); e != faults[x].e {
					t.Errorf("kind %d, faults %d and %d: %d", kind, x, y, e)
				}
			}
		}
	}
}
