package trace_test

import (
	"fmt"
	"math/big"
	"math/rand"
	"regexp"
	"slices"
	"strconv"
	"strings"
	"testing"

	"kurgan/api"
	"kurgan/cell"
	"kurgan/gen"
	"kurgan/solver"
	"kurgan/tape"
	"kurgan/trace"
)

// machine is what a machine is made of, so that there can be several of the same.
type machine struct {
	i     api.Instance
	c     solver.Config
	draws []int
}

func (m machine) new() *solver.Machine {
	made, e := solver.New(m.i, m.c, tape.New([]int{5, 1, 4}, m.draws))
	if e != api.OK {
		panic(e)
	}
	return made
}

// someMachine is drawn: of a small problem, often with few slots and levels.
func someMachine(r *rand.Rand) machine {
	kind := 1 + r.Intn(3)
	i, _ := gen.Make(kind, 1+r.Intn([]int{0, 10, 6, 6}[kind]), []int{1, 9, 999}[r.Intn(3)], r.Uint64())
	c := solver.Config{Workers: []int{1, 2, 3, 16}[r.Intn(4)], Slots: []int{1, 3, 64}[r.Intn(3)], Levels: 1 + r.Intn(3)}
	return machine{i, c, []int{r.Intn(50), r.Intn(50), -r.Intn(50), r.Intn(50)}}
}

// somePicks are drawn: each worker for a while, so that others find what to steal.
func somePicks(r *rand.Rand, count int) []int {
	var l []int
	for len(l) < count {
		who := []int{r.Intn(16), r.Int(), -r.Int(), 0}[r.Intn(4)]
		for range 1 + r.Intn(20) {
			l = append(l, who)
		}
	}
	return l[:count]
}

// plainWorker is the worker with a number of any size, by the chapter's words.
func plainWorker(n, workers int) int {
	unsigned := big.NewInt(int64(n))
	if n < 0 {
		unsigned.Add(unsigned, new(big.Int).Lsh(big.NewInt(1), 64))
	}
	return int(unsigned.Mod(unsigned, big.NewInt(int64(workers))).Int64())
}

// plainRecord is the chapter's Record.
func plainRecord(m *solver.Machine, picks []int) []trace.Entry {
	var l []trace.Entry
	for _, n := range picks {
		worker, before := plainWorker(n, len(m.Picks())), m.Memory().Steps()
		m.Pick(worker)
		entry := trace.Entry{Worker: worker}
		if m.Memory().Steps() > before {
			entry.Op = m.Memory().Last()
		}
		l = append(l, entry)
	}
	return l
}

// sameMachine: do both stand as the other one does?
func sameMachine(a, b *solver.Machine) bool {
	x, y := a.Result(), b.Result()
	return slices.Equal(a.Picks(), b.Picks()) && slices.Equal(a.Memory().All(), b.Memory().All()) && a.Memory().Steps() == b.Memory().Steps() && a.Memory().Last() == b.Memory().Last() && a.Open() == b.Open() && len(a.Met()) == len(b.Met()) && x.Status == y.Status && x.Value == y.Value && slices.Equal(x.X, y.X)
}

// plainEntry is any line of an entry, its end included.
var plainEntry = regexp.MustCompile(`\A(0|[1-9]|1[0-5]) (?:-|(read|write|swap|add) (0|[1-9][0-9]{0,17}) (0|-?[1-9][0-9]{0,17}) (0|-?[1-9][0-9]{0,17}) (yes|no))\n\z`)

// plainRead is the chapter's Read.
func plainRead(s string) ([]trace.Entry, int, api.Errno) {
	if len(s) > 1048576 {
		return nil, 0, api.ErrBig
	}
	var l []trace.Entry
	for at, line := range strings.SplitAfter(s, "\n") {
		if line == "" && at == strings.Count(s, "\n") { // behind the last line feed
			break
		}
		m := plainEntry.FindStringSubmatch(line)
		if m == nil {
			return nil, at + 1, api.ErrForm
		}
		var entry trace.Entry
		entry.Worker, _ = strconv.Atoi(m[1])
		if m[2] != "" {
			entry.Op.Kind = 1 + slices.Index([]string{"read", "write", "swap", "add"}, m[2])
			entry.Op.Cell, _ = strconv.Atoi(m[3])
			entry.Op.Old, _ = strconv.Atoi(m[4])
			entry.Op.New, _ = strconv.Atoi(m[5])
			entry.Op.Done = m[6] == "yes"
		}
		l = append(l, entry)
	}
	return l, 0, api.OK
}

// spelled is the chapter's text of entries.
func spelled(l []trace.Entry) string {
	var text strings.Builder
	for _, entry := range l {
		op := entry.Op
		if op == (cell.Op{}) {
			fmt.Fprintf(&text, "%d -\n", entry.Worker)
			continue
		}
		fmt.Fprintf(&text, "%d %s %d %d %d %s\n", entry.Worker, []string{"read", "write", "swap", "add"}[op.Kind-1], op.Cell, op.Old, op.New, map[bool]string{true: "yes", false: "no"}[op.Done])
	}
	return text.String()
}

// hold holds Read against the plain one; and what is read has just that text.
func hold(t *testing.T, s string) {
	t.Helper()
	want, wantLine, wanted := plainRead(s)
	got, line, e := trace.Read(s)
	if !slices.Equal(got, want) || line != wantLine || e != wanted {
		t.Fatalf("Read(%.200q) = %v, %d, %d, not %v, %d, %d", s, got, line, e, want, wantLine, wanted)
	}
	if e != api.OK || len(got) > 10000 {
		return
	}
	if text, e := trace.Write(got); text != s || e != api.OK {
		t.Fatalf("Read(%.200q) = %v, whose text is %q, %d", s, got, text, e)
	}
}

// wrong holds that a line of a text is wrong.
func wrong(t *testing.T, s string, line int) {
	t.Helper()
	if got, at, e := trace.Read(s); got != nil || at != line || e != api.ErrForm {
		t.Errorf("Read(%.200q) = %v, %d, %d, not line %d", s, got, at, e, line)
	}
	hold(t, s)
}

// someEntry is one that has a line, with numbers of at most 18 digits.
func someEntry(r *rand.Rand) trace.Entry {
	some := func() int {
		return []int{0, 1, -1, 1e18 - 1, 1 - 1e18, r.Intn(100), r.Intn(1e18), -r.Intn(1e18)}[r.Intn(8)]
	}
	entry := trace.Entry{Worker: r.Intn(16)}
	if r.Intn(5) > 0 {
		entry.Op = cell.Op{Kind: 1 + r.Intn(4), Cell: max(some(), 0), Old: some(), New: some(), Done: r.Intn(2) == 0}
	}
	return entry
}

func someEntries(r *rand.Rand, count int) []trace.Entry {
	var l []trace.Entry
	for range count {
		l = append(l, someEntry(r))
	}
	return l
}
