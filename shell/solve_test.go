package shell_test

import (
	"fmt"
	"math/rand"
	"regexp"
	"strconv"
	"strings"
	"testing"

	"kurgan/api"
	"kurgan/cert"
	"kurgan/exact"
	"kurgan/gen"
	"kurgan/greedy"
	"kurgan/inst"
	"kurgan/kernel"
	"kurgan/parse"
	"kurgan/shell"
	"kurgan/solver"
	"kurgan/tape"
	"kurgan/tree"
	"kurgan/value"
)

// plainPicks is who is picked by a part.
func plainPicks(p shell.Part, workers int) []int {
	var l []int
	seed, turn := p.Seed, 0
	for k := range p.Count {
		switch {
		case p.Kind == shell.Mixed:
			var n int
			n, seed = gen.Draw(seed, workers-1)
			l = append(l, n)
		case p.Kind == shell.Favor && (k+1)%p.Every > 0:
			l = append(l, p.Who)
		default:
			l = append(l, turn%workers)
			turn++
		}
	}
	return l
}

// plainSolve is the chapter's Solve, with the machine as layer 27 has it.
func plainSolve(problem, script string) string {
	i, at, e := parse.Parse(problem)
	if e != api.OK {
		return fmt.Sprintf("ERROR %d%s\n", e, located(problem, at))
	}
	s, line, e := plainRead(script)
	if e != api.OK {
		return fmt.Sprintf("SCRIPT ERROR %d line %d\n", e, line)
	}
	m, _ := solver.New(i, s.Config, tape.New(nil, s.Draws))
	for _, p := range s.Parts {
		for _, who := range plainPicks(p, s.Config.Workers) {
			if p.Kind != shell.All || m.Open() > 0 {
				m.Pick(who)
			}
		}
	}
	r := m.Result()
	if m.Open() > 0 {
		return fmt.Sprintf("UNFINISHED %d\n%s\n", r.Value, strings.Trim(fmt.Sprint(r.X), "[]"))
	}
	k, _ := kernel.Of(i)
	word, _ := tree.Word(k, m.Met())
	if len(word) > 1<<20 {
		return fmt.Sprintf("DONE %d\nLONG\n", r.Value)
	}
	return fmt.Sprintf("DONE %d\nCERT %d %d\n%s\n%s\n", r.Value, r.Value, len(r.X), strings.Trim(fmt.Sprint(r.X), "[]"), word)
}

// holdSolve holds Solve against the plain one, and against the problem itself, and answers its first word.
func holdSolve(t *testing.T, problem, script string) string {
	t.Helper()
	got := shell.Solve(problem, script)
	if want := plainSolve(problem, script); got != want {
		t.Fatalf("Solve(%.300q, %.300q) = %.300q, not %.300q", problem, script, got, want)
	}
	word, _, _ := strings.Cut(got, " ")
	switch word {
	case "DONE":
		holdDone(t, problem, got)
	case "UNFINISHED":
		holdUnfinished(t, problem, got)
	}
	return word
}

var (
	doneForm       = regexp.MustCompile(`\ADONE (\d+)\n(CERT (\d+) \d+\n[0-9 ]+\n[pbl]+\n|LONG\n)\z`)
	unfinishedForm = regexp.MustCompile(`\AUNFINISHED (\d+)\n(\d+(?: \d+)*)\n\z`)
)

// holdDone: the value is a best one, and the certificate shows it.
func holdDone(t *testing.T, problem, got string) {
	t.Helper()
	i, _, _ := parse.Parse(problem)
	m := doneForm.FindStringSubmatch(got)
	if m == nil {
		t.Fatalf("%q", got)
	}
	if x, _, e := exact.Best(i); e == api.OK {
		if best, _ := value.Value(i, x); m[1] != fmt.Sprint(best) {
			t.Fatalf("%q: %d is best: %q", problem, best, got)
		}
	}
	if m[2] == "LONG\n" {
		return
	}
	c, _, _ := cert.Read(m[2])
	if worth, e := value.Value(i, c.X); e != api.OK || m[1] != fmt.Sprint(worth) || m[3] != m[1] {
		t.Fatalf("%q: %q: %d, %d", problem, got, worth, e)
	}
	if v := shell.Verify(problem, m[2]); v != "VALID "+m[1]+"\n" {
		t.Fatalf("%q: %q: %q", problem, got, v)
	}
}

// holdUnfinished: there is a solution, with its value.
func holdUnfinished(t *testing.T, problem, got string) {
	t.Helper()
	i, _, _ := parse.Parse(problem)
	m := unfinishedForm.FindStringSubmatch(got)
	if m == nil {
		t.Fatalf("%q", got)
	}
	var x []int
	for _, word := range strings.Fields(m[2]) {
		n, _ := strconv.Atoi(word)
		x = append(x, n)
	}
	if worth, e := value.Value(i, x); e != api.OK || m[1] != fmt.Sprint(worth) {
		t.Fatalf("%q: %q: %d, %d", problem, got, worth, e)
	}
}

func TestExample(t *testing.T) {
	got := shell.Solve("ASSIGNMENT 1 7", "all 1000")
	if got != "DONE 7\nCERT 7 1\n0\nl\n" && got != "DONE 7\nCERT 7 1\n0\np\n" {
		t.Errorf("%q", got)
	}
	holdSolve(t, "ASSIGNMENT 1 7", "all 1000")
}

var wrongProblems = []struct{ problem, told string }{
	{"", "ERROR 6 at 1 1\n"}, {"\n", "ERROR 6 at 2 1\n"}, {"# ü\n# ü", "ERROR 6 at 2 4\n"},
	{"KNAPSACK 0", "ERROR 1 at 1 10\n"}, {"KNAPSACK\n 0 1", "ERROR 1 at 2 2\n"}, {"x ü", "ERROR 2 at 1 3\n"}, {"#ü\xff\n\n \xff", "ERROR 2 at 3 2\n"}, {"a1", "ERROR 2 at 1 2\n"},
	{"FOO 1", "ERROR 3 at 1 1\n"}, {"TSP 2 LOWER 7", "ERROR 3 at 1 7\n"}, {"1", "ERROR 3 at 1 1\n"}, {"#ü\nKNAPSACK x", "ERROR 4 at 2 10\n"}, {"ASSIGNMENT 07", "ERROR 4 at 1 12\n"},
	{"ASSIGNMENT 25", "ERROR 5 at 1 12\n"}, {"KNAPSACK 1 2147483648", "ERROR 5 at 1 12\n"}, {"ASSIGNMENT 1 7 " + strings.Repeat("#", 65536), "ERROR 5 at 1 1\n"},
	{"ASSIGNMENT 2\n1 2\n3", "ERROR 6 at 3 2\n"}, {"ASSIGNMENT 1 7 8", "ERROR 7 at 1 16\n"}, {"ASSIGNMENT 1\n7\n#\nü", "ERROR 2 at 4 1\n"}, {"TSP 1 FULL 3", "ERROR 8 at 1 12\n"}, {"TSP 2 FULL\n0 1\n1 1", "ERROR 8 at 3 3\n"},
}

var wrongScripts = []struct{ script, told string }{
	{"x", "SCRIPT ERROR 8 line 1\n"}, {"all 5\n#\n\nworkers 3", "SCRIPT ERROR 8 line 4\n"}, {strings.Repeat("round 1\n", 51), "SCRIPT ERROR 8 line 51\n"}, {"slots 2\nslots 2", "SCRIPT ERROR 8 line 2\n"}, {"favor 2 1 1", "SCRIPT ERROR 8 line 1\n"}, {"all 5 ", "SCRIPT ERROR 8 line 1\n"},
	{strings.Repeat("\n", 65537), "SCRIPT ERROR 5 line 0\n"}, {"x" + strings.Repeat("\n", 65536), "SCRIPT ERROR 5 line 0\n"},
}

// Problems and scripts that are refused, also both at once.
func TestRefused(t *testing.T) {
	for _, p := range wrongProblems {
		for _, s := range []string{"", "all 1000", "workers 2\n", wrongScripts[0].script, wrongScripts[6].script} {
			if got := shell.Solve(p.problem, s); got != p.told {
				t.Errorf("Solve(%.50q, %.50q) = %q", p.problem, s, got)
			}
			holdSolve(t, p.problem, s)
		}
	}
	for _, s := range wrongScripts {
		for _, problem := range []string{"ASSIGNMENT 1 7", "KNAPSACK 1 5 3 4", "TSP 2 UPPER 7"} {
			if got := shell.Solve(problem, s.script); got != s.told {
				t.Errorf("Solve(%.50q, %.50q) = %q", problem, s.script, got)
			}
			holdSolve(t, problem, s.script)
		}
	}
}

// Without a pick the first solution is told, which is greedy's.
func TestNoParts(t *testing.T) {
	r := rand.New(rand.NewSource(431))
	for kind := 1; kind <= 3; kind++ {
		for _, n := range []int{1, 2, 5, 24} {
			i := drawn(r, kind, n, 1000)
			x, _, _ := greedy.Start(i)
			worth, _ := value.Value(i, x)
			want := fmt.Sprintf("UNFINISHED %d\n%s\n", worth, strings.Trim(fmt.Sprint(x), "[]"))
			for _, script := range []string{"", "workers 16\nslots 1\nlevels 1", "draws 5 6 7\n", "round 0", "favor 1 1 0\nmixed 0 9\nall 0\n"} {
				if got := shell.Solve(text(i), script); got != want {
					t.Errorf("%q, not %q", got, want)
				}
				holdSolve(t, text(i), script)
			}
		}
	}
}

var configs = []string{"", "workers 1\n", "workers 16\n", "slots 1\n", "levels 1\n", "workers 1\nslots 1\nlevels 1\n", "workers 16\nslots 4096\nlevels 6\n", "workers 3\ndraws 5 1 4 2 2 9 7 0 3 999999999999999999 8 1 1 6\n", "workers 4\nslots 3\nlevels 2\ndraws 1 0 3 2 1 1\n"}

// Machines of each kind of problem, done and unfinished, by parts of each kind and of several.
func TestMachines(t *testing.T) {
	r := rand.New(rand.NewSource(432))
	met := map[string]int{}
	for kind := 1; kind <= 3; kind++ {
		for _, n := range []int{1, 2, []int{0, 14, 8, 8}[kind]} {
			for round, ahead := range configs {
				if round < 2 || n > 2 {
					problem := text(drawn(r, kind, n, 1000))
					for _, parts := range []string{"", "round COUNT\n", "favor 0 3 COUNT\n", "favor 0 1 COUNT\n", "mixed COUNT 12345\n", "mixed COUNT 999999999999999999\n", "all COUNT\n", "round 7\nfavor 0 5 33\nmixed 21 3\nround 7\nall COUNT\n", "all 5\nall 5\nall 5\nall COUNT\nall 5\n", "favor 0 1000000 COUNT\nround 1\nmixed 5 5"} {
						for _, count := range []string{"1", "9", "100", "1000", "100000"} {
							script := strings.ReplaceAll(parts, "COUNT", count)
							met[parts+holdSolve(t, problem, ahead+script)]++
							holdSolve(t, problem, ahead+alone+script)
						}
					}
				}
			}
		}
	}
	for _, parts := range []string{"round COUNT\n", "mixed COUNT 12345\n", "all COUNT\n", "favor 0 3 COUNT\n"} {
		if met[parts+"DONE"] < 10 || met[parts+"UNFINISHED"] < 10 {
			t.Error(parts, met)
		}
	}
}

// Each pick counts: with one more the machine is done, with one less it isn't, also if the picks are those of several parts.
func TestEachPick(t *testing.T) {
	r := rand.New(rand.NewSource(433))
	for round := range 12 {
		i := drawn(r, 1+round%3, 6, 1000)
		problem := text(i)
		ahead := []string{"workers 1\n", "workers 3\nslots 5\n", "workers 2\ndraws 3 1 2 9 5\n"}[r.Intn(3)]
		done := func(count int) bool {
			script := ahead + fmt.Sprintf("all %d\n", count)
			return holdSolve(t, problem, script) == "DONE"
		}
		least := 1
		for !done(least) {
			least++
		}
		for count := least; count < least+9; count++ {
			if !done(count) || !strings.HasPrefix(shell.Solve(problem, ahead+fmt.Sprintf("round %d", count)), "DONE") {
				t.Fatal(problem, count)
			}
		}
		if got := shell.Solve(problem, ahead+fmt.Sprintf("round %d", least-1)); !strings.HasPrefix(got, "UNFINISHED") {
			t.Fatal(problem, got)
		}
		// what all picks behind the end is not picked, and changes nothing
		if a, b := shell.Solve(problem, ahead+fmt.Sprintf("all %d", least)), shell.Solve(problem, ahead+"all 1000000\nall 1000000"); a != b {
			t.Fatal(problem, a, b)
		}
	}
}

// Worker 0 alone, till there is something for others to steal: else they leave at once.
const alone = "favor 0 1000000 60\n"

// differ holds that two scripts come to their end at a problem by different searches.
func differ(t *testing.T, a, b string) {
	t.Helper()
	for seed := range uint64(60) {
		i, _ := gen.Make(api.Tour, 9, 999, seed)
		problem := text(i)
		if shell.Solve(problem, a) == shell.Solve(problem, b) {
			continue
		}
		if holdSolve(t, problem, a) == "DONE" && holdSolve(t, problem, b) == "DONE" {
			return
		}
	}
	t.Errorf("%q and %q are never different", a, b)
}

// Each part begins with worker 0 again; and each number of a script makes a difference.
func TestPartsMatter(t *testing.T) {
	const end = "all 1000000\n"
	const three = "workers 3\n" + alone
	differ(t, three+strings.Repeat("round 100\n", 9)+end, three+"round 900\n"+end)
	differ(t, three+strings.Repeat("all 100\n", 9)+end, three+end)
	differ(t, three+"favor 0 2 900\n"+end, three+"favor 1 2 900\n"+end)
	differ(t, three+"favor 0 2 900\n"+end, three+"favor 0 9 900\n"+end)
	differ(t, three+"favor 1 2 900\n"+end, three+"favor 1 2 90\n"+end)
	differ(t, three+"mixed 900 1\n"+end, three+"mixed 900 2\n"+end)
	differ(t, three+"mixed 900 1\n"+end, three+"mixed 90 1\n"+end)
	differ(t, three+"mixed 900 1\n"+end, three+"round 900\n"+end)
	differ(t, three+"mixed 900 1\nfavor 1 2 90\n"+end, three+"favor 1 2 90\nmixed 900 1\n"+end)
	differ(t, "workers 2\n"+alone+end, three+end)
	differ(t, "draws 3 3 1 1 2 0 3 2 1\n"+end, end)
	differ(t, "slots 2\n"+end, end)
	differ(t, "levels 1\n"+end, end)
	i, _ := gen.Make(api.Tour, 9, 999, 7)
	if a, b := shell.Solve(text(i), alone+end), shell.Solve(text(i), "workers 2\nslots 64\nlevels 3\ndraws\n"+alone+end); a != b {
		t.Errorf("%q, %q", a, b)
	}
}

// The same problem in several of its texts, and the same call twice.
func TestSameProblem(t *testing.T) {
	for _, texts := range [][]string{
		{"TSP 4 UPPER 5 9 2 7 4 3", "TSP 4 FULL\n0 5 9 2\n5 0 7 4\n9 7 0 3\n2 4 3 0\n", "# a tour\nTSP\n4\r\nUPPER 5 9 2 # the first row\n\t7 4 # ü\xff\n3#"},
		{"KNAPSACK 3 9\n4 5\n3 2\n6 8\n", "KNAPSACK 3 9 4 5 3 2 6 8", "\n\nKNAPSACK # n and cap:\n3 9\n4 5 3\n2 6\n8"},
		{"ASSIGNMENT 2\n1 2\n3 9\n", "ASSIGNMENT 2 1 2 3 9"},
	} {
		for _, script := range []string{"", "all 1000", "round 3", "workers 5\nmixed 20 7\nfavor 3 2 9\n", "x"} {
			first := shell.Solve(texts[0], script)
			for _, s := range texts {
				for range 2 {
					if got := shell.Solve(s, script); got != first {
						t.Errorf("Solve(%q, %q) = %q, not %q", s, script, got, first)
					}
					holdSolve(t, s, script)
				}
			}
		}
	}
}

// The same script in several of its texts.
func TestSameScript(t *testing.T) {
	problem := text(drawn(rand.New(rand.NewSource(434)), api.Tour, 7, 100))
	first := shell.Solve(problem, "workers 3\nslots 20\nlevels 2\nround 50\nall 9000\n")
	for _, script := range []string{"levels 2\nslots 20\nworkers 3\ndraws\nround 50\nall 9000", "\n# ü\nslots 20\n\nlevels 2\nworkers 3\nround 50\n#\nall 9000\n\n"} {
		if got := shell.Solve(problem, script); got != first {
			t.Errorf("%q, not %q", got, first)
		}
	}
}

// Drawn problems and drawn scripts.
func TestDrawnSolves(t *testing.T) {
	r := rand.New(rand.NewSource(435))
	met := map[string]int{}
	for range 1500 {
		kind := 1 + r.Intn(3)
		problem := text(drawn(r, kind, 1+r.Intn([]int{0, 12, 7, 7}[kind]), []int{2, 9, 1000}[r.Intn(3)]))
		s := anyScript(r)
		s.Parts = s.Parts[:min(len(s.Parts), 6)]
		for at := range s.Parts {
			s.Parts[at].Count %= []int{2, 50, 3000}[r.Intn(3)]
		}
		if len(s.Parts) > 0 && r.Intn(2) == 0 {
			s.Parts[0] = shell.Part{Kind: shell.Favor, Every: 1000, Count: 60}
		}
		script := spelled(s)
		if r.Intn(20) == 0 {
			script = script[:r.Intn(len(script))] + "0"
		}
		met[holdSolve(t, problem, script)]++
	}
	if met["DONE"] < 200 || met["UNFINISHED"] < 200 || met["SCRIPT"] < 5 {
		t.Error(met)
	}
}

// odd is a Knapsack whose search prunes little, since its items, all the same, never fill the room.
func odd(n int) string {
	return fmt.Sprintf("KNAPSACK %d %d\n", n, n|1) + strings.Repeat("2 2\n", n)
}

// A word of more letters than a certificate may have, and a long one that it may.
func TestLong(t *testing.T) {
	const script = "workers 1\nslots 1\nlevels 1\nall 1000000\nall 1000000\nall 1000000\n"
	if got := shell.Solve(odd(21), script); got != "DONE 20\nLONG\n" {
		t.Errorf("%.100q", got)
	}
	got := shell.Solve(odd(20), script)
	if len(got) < 500000 || !strings.HasPrefix(got, "DONE 20\nCERT 20 20\n") {
		t.Errorf("%.100q", got)
	}
	holdDone(t, odd(20), got)
}

// At the limits: the greatest problems, with the greatest numbers.
func TestGreat(t *testing.T) {
	for kind, n := range map[int]int{1: 64, 2: 24, 3: 24} {
		i, _ := gen.Make(kind, n, api.MaxEntry, 7)
		for _, script := range []string{"", "workers 16\nslots 4096\nlevels 6\nround 3000\nmixed 3000 7\n", "workers 16\nslots 1\nlevels 1\nfavor 15 16 5000"} {
			holdSolve(t, text(i), script)
		}
	}
	full := api.Instance{Kind: api.Knapsack, N: 64, Cap: api.MaxEntry}
	for range 64 {
		full.Weight, full.Value = append(full.Weight, 0), append(full.Value, api.MaxEntry)
	}
	if got := shell.Solve(text(full), "all 1000"); !strings.HasPrefix(got, "DONE 137438953408\nCERT 137438953408 64\n1 1 1") {
		t.Errorf("%q", got)
	}
	holdSolve(t, text(full), "all 1000")
}

// Any strings.
func TestAnyStrings(t *testing.T) {
	r := rand.New(rand.NewSource(436))
	bits := []string{"KNAPSACK", "ASSIGNMENT", "TSP", "FULL", "UPPER", " ", "\n", "0", "1", "2", "7", "#", "ü", "\xff", "all 5", "workers 1", "CERT ", "p", "b", "l"}
	some := func() string {
		s := ""
		for range r.Intn(12) {
			s += bits[r.Intn(len(bits))] + []string{"", " ", "\n"}[r.Intn(3)]
		}
		return s
	}
	for range 50000 {
		problem, other := some(), some()
		holdSolve(t, problem, other)
		holdVerify(t, problem, other)
		holdSolve(t, "ASSIGNMENT 1 7", other)
		holdVerify(t, "ASSIGNMENT 1 7", other)
		holdSolve(t, problem, "all 9")
	}
}

// A script of 65536 bytes, and one of one more.
func TestSolveOfLargestScript(t *testing.T) {
	i, _ := inst.Write(drawn(rand.New(rand.NewSource(437)), api.Assignment, 5, 50))
	script := "all 1000\n" + strings.Repeat("# a remark\n", 5956)
	script += strings.Repeat("#", 65536-len(script))
	if holdSolve(t, i, script) != "DONE" || holdSolve(t, i, script+"#") != "SCRIPT" {
		t.Error("65536 bytes or one more")
	}
}
