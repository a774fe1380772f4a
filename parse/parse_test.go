package parse_test

import (
	"fmt"
	"math/rand"
	"strconv"
	"strings"
	"testing"

	"kurgan/api"
	"kurgan/gen"
	"kurgan/inst"
	"kurgan/lex"
	"kurgan/parse"
)

// need: what must stand behind some tokens that are all possible: one of some words, a number within bounds, or the end.
type need struct {
	words []string
	size  bool // a number from 1 on
	self  bool // a number that must be 0
	most  int
	end   bool
}

func needed(before []string) need {
	k := len(before)
	if k == 0 {
		return need{words: []string{"KNAPSACK", "ASSIGNMENT", "TSP"}}
	}
	kind, entry := before[0], need{most: 2147483647}
	if k == 1 && kind == "KNAPSACK" {
		return need{size: true, most: 64}
	}
	if k == 1 {
		return need{size: true, most: 24}
	}
	n, _ := strconv.Atoi(before[1])
	switch {
	case kind == "TSP" && k == 2:
		return need{words: []string{"FULL", "UPPER"}}
	case kind == "KNAPSACK" && k < 3+2*n, kind == "ASSIGNMENT" && k < 2+n*n:
		return entry
	case kind == "TSP" && before[2] == "FULL" && k < 3+n*n:
		entry.self = (k-3)/n == (k-3)%n
		return entry
	case kind == "TSP" && before[2] == "UPPER" && k < 3+n*(n-1)/2:
		return entry
	}
	return need{end: true}
}

// fault: what is wrong with a token ("" is the end) where something is needed.
func fault(w need, token string) api.Errno {
	n, wrong := strconv.Atoi(token)
	switch {
	case token == "" && w.end:
		return api.OK
	case token == "":
		return api.ErrShort
	case w.end:
		return api.ErrTail
	case w.words != nil && !strings.Contains(" "+strings.Join(w.words, " ")+" ", " "+token+" "):
		return api.ErrWord
	case w.words != nil:
		return api.OK
	case wrong != nil:
		return api.ErrNumber
	case w.size && n == 0:
		return api.ErrArg
	case n > w.most:
		return api.ErrBig
	case w.self && n != 0:
		return api.ErrForm
	}
	return api.OK
}

// problem: what tokens tell that are all possible.
func problem(tokens []string) api.Instance {
	n, _ := strconv.Atoi(tokens[1])
	var l []int
	for _, s := range tokens[2:] {
		if k, err := strconv.Atoi(s); err == nil {
			l = append(l, k)
		}
	}
	if tokens[0] == "KNAPSACK" {
		i := api.Instance{Kind: 1, N: n, Cap: l[0]}
		for k := 1; k < len(l); k += 2 {
			i.Weight, i.Value = append(i.Weight, l[k]), append(i.Value, l[k+1])
		}
		return i
	}
	i := api.Instance{Kind: 2, N: n}
	if tokens[0] == "TSP" {
		i.Kind = 3
	}
	at := map[[2]int]int{}
	next := 0
	for a := range n {
		for b := range n {
			if tokens[2] != "UPPER" || a < b {
				at[[2]int{a, b}] = l[next]
				if tokens[2] == "UPPER" {
					at[[2]int{b, a}] = l[next]
				}
				next++
			}
		}
	}
	for a := range n {
		var row []int
		for b := range n {
			row = append(row, at[[2]int{a, b}])
		}
		i.Cost = append(i.Cost, row)
	}
	return i
}

// check holds Parse against needed, fault and problem, for tokens that are laid out in some way.
func check(t *testing.T, tokens []string, layout func(k int) string) {
	t.Helper()
	var s strings.Builder
	var ats []int
	for k, token := range tokens {
		s.WriteString(layout(k))
		ats = append(ats, s.Len())
		s.WriteString(token)
	}
	s.WriteString(layout(len(tokens)))
	ats = append(ats, s.Len())
	want, wantAt, wantE := api.Instance{}, 0, api.OK
	for k, at := range ats {
		token := ""
		if k < len(tokens) {
			token = tokens[k]
		}
		if wantE = fault(needed(tokens[:k]), token); wantE != api.OK {
			wantAt = at
			break
		}
	}
	if wantE == api.OK {
		want = problem(tokens)
	}
	i, at, e := parse.Parse(s.String())
	if at != wantAt || e != wantE || fmt.Sprint(i) != fmt.Sprint(want) {
		t.Fatalf("Parse(%q) = %v, %d, %d, not %v, %d, %d", s.String(), i, at, e, want, wantAt, wantE)
	}
	if e == api.OK && inst.Check(i) != api.OK {
		t.Fatalf("Parse(%q) = %v, which is not valid", s.String(), i)
	}
}

func plain(k int) string { return " " }

// possible draws all tokens of a problem.
func possible(r *rand.Rand, head ...string) []string {
	tokens := head
	for {
		w := needed(tokens)
		switch {
		case w.end:
			return tokens
		case w.words != nil:
			tokens = append(tokens, w.words[r.Intn(len(w.words))])
		case w.size:
			tokens = append(tokens, strconv.Itoa(1+r.Intn(w.most)))
		case w.self:
			tokens = append(tokens, "0")
		default:
			tokens = append(tokens, []string{"0", "1", "2147483647", strconv.Itoa(r.Intn(1000))}[r.Intn(4)])
		}
	}
}

var heads = [][]string{{"KNAPSACK"}, {"ASSIGNMENT"}, {"TSP"}}

var others = []string{"0", "1", "2", "3", "24", "25", "64", "65", "2147483647", "2147483648", "999999999999999999", "KNAPSACK", "ASSIGNMENT", "TSP", "FULL", "UPPER", "knapsack", "Tsp", "full", "TSPX", "KNAPSAC", "x", "ABCDEFGHIJKLMNOP"}

func TestExamples(t *testing.T) {
	for _, c := range []struct {
		s    string
		want string
	}{
		{"TSP 2 UPPER 7", "{3 2 0 [] [] [[0 7] [7 0]]} 0 0"},
		{"TSP 2 FULL 0 7 8 0", "{3 2 0 [] [] [[0 7] [8 0]]} 0 0"},
		{"TSP 3 UPPER 1 2 3", "{3 3 0 [] [] [[0 1 2] [1 0 3] [2 3 0]]} 0 0"},
		{"TSP 1 UPPER", "{3 1 0 [] [] [[0]]} 0 0"},
		{"TSP 1 FULL 0", "{3 1 0 [] [] [[0]]} 0 0"},
		{"ASSIGNMENT 2 1 2 3 9", "{2 2 0 [] [] [[1 2] [3 9]]} 0 0"},
		{"KNAPSACK 1 5\n3 4\n", "{1 1 5 [3] [4] []} 0 0"},
		{"# a#\n KNAPSACK#\n2\t0#x\n 0 1\r\n3 2147483647 # the end", "{1 2 0 [0 3] [1 2147483647] []} 0 0"},
	} {
		i, at, e := parse.Parse(c.s)
		if got := fmt.Sprint(i, at, int(e)); got != c.want {
			t.Errorf("Parse(%q) = %s, not %s", c.s, got, c.want)
		}
	}
}

func TestFaults(t *testing.T) {
	for _, c := range []struct {
		s  string
		at int
		e  api.Errno
	}{
		{"", 0, api.ErrShort},
		{" # x", 4, api.ErrShort},
		{"KNAPSACK", 8, api.ErrShort},
		{"KNAPSACK 0", 9, api.ErrArg},
		{"TSP 1 FULL 3", 11, api.ErrForm},
		{"TSP 1 FULL", 10, api.ErrShort},
		{"TSP 1 FULL 2147483648", 11, api.ErrBig},
		{"TSP 1 FULL x", 11, api.ErrNumber},
		{"TSP 1 UPPER 0", 12, api.ErrTail},
		{"TSP 1 UPPER x", 12, api.ErrTail},
		{"TSP 1 FULL 0 FULL", 13, api.ErrTail},
		{"TSP 1", 5, api.ErrShort},
		{"TSP 1 0", 6, api.ErrWord},
		{"TSP 1 full 0", 6, api.ErrWord},
		{"TSP 1 TSP", 6, api.ErrWord},
		{"TSP FULL 1 0", 4, api.ErrNumber},
		{"TSP 0 x", 4, api.ErrArg},
		{"TSP 25 FULL", 4, api.ErrBig},
		{"ASSIGNMENT 25", 11, api.ErrBig},
		{"KNAPSACK 65", 9, api.ErrBig},
		{"KNAPSACK 1 2147483648", 11, api.ErrBig},
		{"KNAPSACK 1 0 0 2147483648", 15, api.ErrBig},
		{"ASSIGNMENT 1 999999999999999999", 13, api.ErrBig},
		{"ASSIGNMENT 1 1 1", 15, api.ErrTail},
		{"1", 0, api.ErrWord},
		{"Knapsack 1 1 1 1", 0, api.ErrWord},
		{"FULL", 0, api.ErrWord},
		// What lex.Scan finds comes first, wherever it stands.
		{"KNAPSACK 0 ü", 11, api.ErrSign},
		{"x 007", 2, api.ErrNumber},
		{"1 1234567890123456789", 2, api.ErrBig},
		{"1 abcdefghijklmnopq", 2, api.ErrBig},
		{"TSP 1 UPPER x1", 13, api.ErrSign},
		{"x" + strings.Repeat(" ", 65536), 0, api.ErrBig},
		{strings.Repeat(" ", 65535) + "x", 65535, api.ErrWord},
	} {
		i, at, e := parse.Parse(c.s)
		if !inst.Same(i, api.Instance{}) || at != c.at || e != c.e {
			t.Errorf("Parse(%.60q) = %v, %d, %d, not %d, %d", c.s, i, at, e, c.at, c.e)
		}
	}
}

// Each size within the limits and beyond them, in each form; and each of these texts cut at each place.
func TestSizes(t *testing.T) {
	r := rand.New(rand.NewSource(8))
	for n := range 67 {
		for _, head := range [][]string{{"KNAPSACK"}, {"ASSIGNMENT"}, {"TSP"}} {
			head = append(head, strconv.Itoa(n))
			forms := [][]string{head}
			if head[0] == "TSP" {
				forms = [][]string{{"TSP", head[1], "FULL"}, {"TSP", head[1], "UPPER"}}
			}
			for _, tokens := range forms {
				if fault(needed(tokens[:1]), tokens[1]) == api.OK {
					tokens = possible(r, tokens...)
				}
				check(t, tokens, plain)
				if n < 6 {
					for k := range tokens {
						check(t, tokens[:k], plain)
					}
				}
				check(t, append(tokens, "0"), plain)
				check(t, append(tokens, "x"), plain)
			}
		}
	}
}

// Each token of small problems is put in the place of others, left out, and put before others.
func TestOtherTokens(t *testing.T) {
	r := rand.New(rand.NewSource(9))
	for _, head := range [][]string{{"KNAPSACK", "1"}, {"KNAPSACK", "3"}, {"ASSIGNMENT", "1"}, {"ASSIGNMENT", "3"}, {"TSP", "1", "FULL"}, {"TSP", "3", "FULL"}, {"TSP", "1", "UPPER"}, {"TSP", "2", "UPPER"}, {"TSP", "4", "UPPER"}} {
		tokens := possible(r, head...)
		for k := 0; k <= len(tokens); k++ {
			for _, other := range others {
				if k < len(tokens) {
					check(t, append(append(append([]string{}, tokens[:k]...), other), tokens[k+1:]...), plain)
				}
				check(t, append(append(append([]string{}, tokens[:k]...), other), tokens[k:]...), plain)
			}
			if k < len(tokens) {
				check(t, append(append([]string{}, tokens[:k]...), tokens[k+1:]...), plain)
			}
		}
	}
}

func TestDrawnTexts(t *testing.T) {
	r := rand.New(rand.NewSource(10))
	blanks := []string{" ", "  ", "\n", "\t", "\r\n", " # ü\xff 007\n", "#\n", "\n#x\r\n"}
	layout := func(k int) string {
		if k == 0 && r.Intn(2) == 0 {
			return ""
		}
		return blanks[r.Intn(len(blanks))]
	}
	for k := range 6000 {
		tokens := possible(r, heads[k%3]...)
		for range r.Intn(3) {
			tokens[r.Intn(len(tokens))] = others[r.Intn(len(others))]
		}
		check(t, tokens, layout)
		tokens = nil
		for range r.Intn(6) {
			tokens = append(tokens, others[r.Intn(len(others))])
		}
		check(t, tokens, layout)
	}
}

// Every string has a first error at a byte of it, or is a problem; and lex's errors are answered as they are.
func TestAnyText(t *testing.T) {
	r := rand.New(rand.NewSource(11))
	pieces := []string{"KNAPSACK", "ASSIGNMENT", "TSP", "FULL", "UPPER", " ", " ", " ", " ", "\n", "#", "0", "1", "2", "99", "ü", "\xff", "a", "\x00"}
	for range 100000 {
		s := ""
		for range r.Intn(12) {
			s += pieces[r.Intn(len(pieces))]
		}
		i, at, e := parse.Parse(s)
		if at < 0 || at > len(s) || e == api.OK && at != 0 || e != api.OK && !inst.Same(i, api.Instance{}) {
			t.Fatalf("Parse(%q) = %v, %d, %d", s, i, at, e)
		}
		if e == api.OK && inst.Check(i) != api.OK {
			t.Fatalf("Parse(%q) = %v, which is not valid", s, i)
		}
		if _, lexAt, lexE := lex.Scan(s); lexE != api.OK && (e != lexE || at != lexAt) {
			t.Fatalf("Parse(%q) = %d, %d, not %d, %d", s, at, e, lexAt, lexE)
		}
	}
}

func TestWrittenProblems(t *testing.T) {
	for kind := 1; kind <= 3; kind++ {
		for n := 1; n <= 64 && (kind == 1 || n <= 24); n++ {
			for _, most := range []int{0, 1, 1000, 2147483647} {
				i, _ := gen.Make(kind, n, most, uint64(n))
				s, e := inst.Write(i)
				if e != api.OK {
					t.Fatal(e)
				}
				got, at, e := parse.Parse(s)
				if !inst.Same(i, got) || at != 0 || e != api.OK {
					t.Fatalf("Parse(%q) = %v, %d, %d", s, got, at, e)
				}
				if again, e := inst.Write(got); again != s || e != api.OK {
					t.Fatalf("%q became %q", s, again)
				}
			}
		}
	}
}

func TestListsOfTheirOwn(t *testing.T) {
	for _, s := range []string{"KNAPSACK 2 9 1 2 3 4", "ASSIGNMENT 2 1 2 3 4", "TSP 3 FULL 0 1 2 3 0 4 5 6 0", "TSP 3 UPPER 1 2 3"} {
		i, _, _ := parse.Parse(s)
		before, _, _ := parse.Parse(s)
		l := append([][]int{i.Weight, i.Value}, i.Cost...)
		for x, numbers := range l {
			for k := range numbers {
				numbers[k] = -7
			}
			for _, other := range append(l[:x:x], l[x+1:]...) {
				for _, n := range other {
					if n == -7 {
						t.Errorf("two lists of the problem of %q share numbers", s)
					}
				}
			}
			for k := range numbers {
				numbers[k] = -8
			}
		}
		if again, _, _ := parse.Parse(s); !inst.Same(before, again) {
			t.Errorf("a change of an answer changed %v into %v", before, again)
		}
	}
}
