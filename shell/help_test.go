package shell_test

import (
	"fmt"
	"math/big"
	"math/rand"
	"regexp"
	"slices"
	"strings"
	"testing"
	"unicode/utf8"

	"kurgan/api"
	"kurgan/gen"
	"kurgan/inst"
	"kurgan/shell"
	"kurgan/solver"
)

const great = "999999999999999999" // 10^18 - 1

// plainLine is any line but an empty one and a remark, as far as its numbers' sizes make no difference.
var plainLine = regexp.MustCompile(`^(workers|slots|levels|draws|round|favor|mixed|all)((?: (?:0|[1-9][0-9]*))*)$`)

// span is a number's least and greatest value.
type span struct{ least, most string }

// spans are those of a line's numbers; none: draws, which may have any number of them.
func spans(word string, workers int) []span {
	count, seed := span{"0", "1000000"}, span{"0", great}
	switch word {
	case "workers":
		return []span{{"1", "16"}}
	case "slots":
		return []span{{"1", "4096"}}
	case "levels":
		return []span{{"1", "6"}}
	case "round", "all":
		return []span{count}
	case "favor":
		return []span{{"0", fmt.Sprint(workers - 1)}, {"1", "1000000"}, count}
	case "mixed":
		return []span{count, seed}
	}
	return nil
}

func within(n *big.Int, s span) bool {
	least, _ := new(big.Int).SetString(s.least, 10)
	most, _ := new(big.Int).SetString(s.most, 10)
	return n.Cmp(least) >= 0 && n.Cmp(most) <= 0
}

// plainNumbers: those of a line, if each is within its span.
func plainNumbers(word, rest string, workers int) ([]int, bool) {
	var l []int
	texts := strings.Fields(rest)
	all := spans(word, workers)
	if word == "draws" {
		if len(texts) > 100 {
			return nil, false
		}
		all = slices.Repeat([]span{{"0", great}}, len(texts))
	}
	if len(texts) != len(all) {
		return nil, false
	}
	for at, text := range texts {
		n, _ := new(big.Int).SetString(text, 10)
		if !within(n, all[at]) {
			return nil, false
		}
		l = append(l, int(n.Int64()))
	}
	return l, true
}

// plainRead is the chapter's Read.
func plainRead(s string) (shell.Script, int, api.Errno) {
	if len(s) > 65536 {
		return shell.Script{}, 0, api.ErrBig
	}
	script := shell.Script{Config: solver.Config{Workers: 2, Slots: 64, Levels: 3}}
	seen := map[string]int{}
	for at, line := range strings.Split(s, "\n") {
		if line == "" || strings.HasPrefix(line, "#") {
			continue
		}
		wrong := func() (shell.Script, int, api.Errno) { return shell.Script{}, at + 1, api.ErrForm }
		m := plainLine.FindStringSubmatch(line)
		if m == nil {
			return wrong()
		}
		l, ok := plainNumbers(m[1], m[2], script.Config.Workers)
		first := strings.Contains("workers slots levels draws", m[1])
		if seen[m[1]]++; !ok || first && (seen[m[1]] > 1 || len(script.Parts) > 0) || !first && len(script.Parts) == 50 {
			return wrong()
		}
		switch m[1] {
		case "workers":
			script.Config.Workers = l[0]
		case "slots":
			script.Config.Slots = l[0]
		case "levels":
			script.Config.Levels = l[0]
		case "draws":
			script.Draws = l
		case "round":
			script.Parts = append(script.Parts, shell.Part{Kind: 1, Count: l[0]})
		case "favor":
			script.Parts = append(script.Parts, shell.Part{Kind: 2, Who: l[0], Every: l[1], Count: l[2]})
		case "mixed":
			script.Parts = append(script.Parts, shell.Part{Kind: 3, Count: l[0], Seed: uint64(l[1])})
		default:
			script.Parts = append(script.Parts, shell.Part{Kind: 4, Count: l[0]})
		}
	}
	return script, 0, api.OK
}

// spelled is the chapter's text of a script.
func spelled(s shell.Script) string {
	text := fmt.Sprintf("workers %d\nslots %d\nlevels %d\n", s.Config.Workers, s.Config.Slots, s.Config.Levels)
	if len(s.Draws) > 0 {
		text += strings.ReplaceAll(strings.Trim(fmt.Sprint("draws ", s.Draws), "]"), "[", "") + "\n"
	}
	for _, p := range s.Parts {
		switch p.Kind {
		case 1:
			text += fmt.Sprintf("round %d\n", p.Count)
		case 2:
			text += fmt.Sprintf("favor %d %d %d\n", p.Who, p.Every, p.Count)
		case 3:
			text += fmt.Sprintf("mixed %d %d\n", p.Count, p.Seed)
		case 4:
			text += fmt.Sprintf("all %d\n", p.Count)
		}
	}
	return text
}

func same(a, b shell.Script) bool {
	return a.Config == b.Config && slices.Equal(a.Draws, b.Draws) && slices.Equal(a.Parts, b.Parts)
}

func copied(s shell.Script) shell.Script {
	s.Draws, s.Parts = slices.Clone(s.Draws), slices.Clone(s.Parts)
	return s
}

// hold holds Read against the plain one; and whatever is read has a text that Read returns it for.
func hold(t *testing.T, s string) {
	t.Helper()
	want, wantLine, wanted := plainRead(s)
	got, line, e := shell.Read(s)
	if !same(got, want) || line != wantLine || e != wanted {
		t.Fatalf("Read(%.300q) = %v, %d, %d, not %v, %d, %d", s, got, line, e, want, wantLine, wanted)
	}
	if e == api.OK {
		holdText(t, got)
	}
}

// holdText holds the text of a script that may be read.
func holdText(t *testing.T, s shell.Script) {
	t.Helper()
	text, e := shell.Write(s)
	if text != spelled(s) || e != api.OK {
		t.Fatalf("Write(%v) = %q, %d, not %q", s, text, e, spelled(s))
	}
	if again, line, e := shell.Read(text); !same(again, s) || line != 0 || e != api.OK {
		t.Fatalf("Read(%q) = %v, %d, %d, not %v", text, again, line, e, s)
	}
}

// wrong holds that a line of a text is wrong.
func wrong(t *testing.T, s string, line int) {
	t.Helper()
	if got, at, e := shell.Read(s); !same(got, shell.Script{}) || got.Draws != nil || got.Parts != nil || at != line || e != api.ErrForm {
		t.Errorf("Read(%.300q) = %v, %d, %d, not line %d", s, got, at, e, line)
	}
	hold(t, s)
}

// right holds that a text has a script.
func right(t *testing.T, s string, want shell.Script) {
	t.Helper()
	if got, at, e := shell.Read(s); !same(got, want) || at != 0 || e != api.OK {
		t.Errorf("Read(%.300q) = %v, %d, %d, not %v", s, got, at, e, want)
	}
	hold(t, s)
}

// plainly is the script with a Config, and else nothing.
func plainly(workers, slots, levels int, parts ...shell.Part) shell.Script {
	return shell.Script{Config: solver.Config{Workers: workers, Slots: slots, Levels: levels}, Parts: parts}
}

// anyCount is a number from 0 to most, often one of both ends.
func anyCount(r *rand.Rand, least, most int) int {
	return []int{least, most, least + r.Intn(min(10, most-least+1)), least + r.Intn(most-least+1)}[r.Intn(4)]
}

// anyScript is a script that may be read.
func anyScript(r *rand.Rand) shell.Script {
	s := plainly(anyCount(r, 1, 16), anyCount(r, 1, 4096), anyCount(r, 1, 6))
	for range []int{0, 1, 100, r.Intn(101)}[r.Intn(4)] {
		s.Draws = append(s.Draws, anyCount(r, 0, 1e18-1))
	}
	for range []int{0, 1, 50, r.Intn(8), r.Intn(51)}[r.Intn(5)] {
		p := shell.Part{Kind: 1 + r.Intn(4), Count: anyCount(r, 0, 1000000)}
		switch p.Kind {
		case shell.Favor:
			p.Who, p.Every = r.Intn(s.Config.Workers), anyCount(r, 1, 1000000)
		case shell.Mixed:
			p.Seed = uint64(anyCount(r, 0, 1e18-1))
		}
		s.Parts = append(s.Parts, p)
	}
	return s
}

// drawn is a problem of a kind with numbers below top.
func drawn(r *rand.Rand, kind, n, top int) api.Instance {
	i, _ := gen.Make(kind, n, top-1, r.Uint64())
	if kind == api.Knapsack {
		i.Cap = r.Intn(n*top/2 + 1)
	}
	return i
}

func text(i api.Instance) string {
	s, _ := inst.Write(i)
	return s
}

// located is " at L C" of a byte, by the chapter's words.
func located(s string, at int) string {
	begin := strings.LastIndex(s[:at], "\n") + 1
	return fmt.Sprintf(" at %d %d", strings.Count(s[:at], "\n")+1, utf8.RuneCountInString(s[begin:at])+1)
}
