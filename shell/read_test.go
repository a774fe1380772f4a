package shell_test

import (
	"fmt"
	"math/rand"
	"slices"
	"strings"
	"testing"

	"kurgan/api"
	"kurgan/shell"
)

func TestConstants(t *testing.T) {
	if shell.Round != 1 || shell.Favor != 2 || shell.Mixed != 3 || shell.All != 4 {
		t.Error(shell.Round, shell.Favor, shell.Mixed, shell.All)
	}
}

func TestEmptyText(t *testing.T) {
	for _, s := range []string{"", "\n", "\n\n\n", "#", "#\n", "# workers 5", "#all\n\n#\tx\n"} {
		right(t, s, plainly(2, 64, 3))
	}
}

// Each of the first lines alone, and all of them in one example.
func TestFirstLines(t *testing.T) {
	right(t, "workers 7", plainly(7, 64, 3))
	right(t, "slots 7\n", plainly(2, 7, 3))
	right(t, "levels 6", plainly(2, 64, 6))
	want := plainly(2, 64, 3)
	right(t, "draws\n", want)
	want.Draws = []int{5, 0, 7}
	right(t, "draws 5 0 7", want)
	want = plainly(3, 9, 4, shell.Part{Kind: 1, Count: 10}, shell.Part{Kind: 2, Who: 2, Every: 5, Count: 30}, shell.Part{Kind: 3, Count: 8, Seed: 77}, shell.Part{Kind: 4, Count: 1000}, shell.Part{Kind: 1, Count: 10})
	want.Draws = []int{4}
	right(t, "levels 4\nworkers 3\ndraws 4\nslots 9\nround 10\nfavor 2 5 30\nmixed 8 77\nall 1000\nround 10\n", want)
}

// orders calls visit for each order of each choice of some lines.
func orders(lines []string, chosen []string, visit func([]string)) {
	visit(chosen)
	for _, line := range lines {
		if !slices.Contains(chosen, line) {
			orders(lines, append(slices.Clone(chosen), line), visit)
		}
	}
}

// The first lines in each order, with any of them missing; one of them twice; one of them behind a part.
func TestOrders(t *testing.T) {
	lines := []string{"workers 5", "slots 6", "levels 2", "draws 8 9"}
	orders(lines, nil, func(chosen []string) {
		ahead := strings.Join(append(slices.Clone(chosen), ""), "\n")
		hold(t, ahead)
		if _, _, e := shell.Read(ahead); e != api.OK {
			t.Error(chosen, e)
		}
		hold(t, ahead+"all 3\nround 4")
		for _, line := range lines {
			if slices.Contains(chosen, line) {
				wrong(t, ahead+line, len(chosen)+1)
				wrong(t, ahead+"\n#\n"+line+"\n", len(chosen)+3)
			}
			for _, part := range []string{"round 0", "favor 1 1 1", "mixed 1 1", "all 0"} {
				wrong(t, ahead+part+"\n"+line, len(chosen)+2)
				wrong(t, ahead+part+"\n"+part+"\n#\n\n"+line+"\nx", len(chosen)+5)
			}
		}
	})
}

// A line that comes twice is wrong also if it tells the same or another number, or none.
func TestTwice(t *testing.T) {
	for _, word := range []string{"workers", "slots", "levels", "draws"} {
		for _, n := range []string{"1", "2", "3", "0", "x"} {
			wrong(t, word+" 2\n"+word+" "+n, 2)
		}
	}
	wrong(t, "draws\ndraws\n", 2)
	wrong(t, "draws\ndraws 1\n", 2)
	wrong(t, "draws 1\nworkers 2\ndraws\n", 3)
	for _, part := range []string{"round 5", "favor 1 1 1", "mixed 1 1", "all 5"} {
		if s, _, e := shell.Read(part + "\n" + part); e != api.OK || len(s.Parts) != 2 {
			t.Error(part, s, e)
		}
	}
}

// Each number at its least and its greatest value, one below and one above.
func TestRanges(t *testing.T) {
	for _, c := range []struct {
		line        string // with ? for the number
		least, most int
	}{
		{"workers ?", 1, 16}, {"slots ?", 1, 4096}, {"levels ?", 1, 6}, {"draws ?", 0, 1e18 - 1}, {"draws 1 ?", 0, 1e18 - 1}, {"draws ? 2 3", 0, 1e18 - 1},
		{"round ?", 0, 1000000}, {"all ?", 0, 1000000}, {"mixed ? 5", 0, 1000000}, {"favor 1 1 ?", 0, 1000000},
		{"favor ? 1 1", 0, 1}, {"favor 1 ? 1", 1, 1000000}, {"mixed 5 ?", 0, 1e18 - 1},
	} {
		for _, n := range []int{c.least, c.least + 1, c.most - 1, c.most} {
			s := strings.Replace(c.line, "?", fmt.Sprint(n), 1)
			if _, _, e := shell.Read(s); e != api.OK {
				t.Error(s, e)
			}
			hold(t, s)
		}
		for _, n := range []int{c.least - 1, c.most + 1, -c.most, c.least - 10} {
			s := strings.Replace(c.line, "?", fmt.Sprint(n), 1)
			wrong(t, s, 1)
			wrong(t, "\n# x\n"+s+"\nx", 3)
		}
		for _, n := range []string{"", "00", "01", "007", "+1", "-1", "-0", "1.0", "1e3", "0x1", "1_0", "x", "1x", "x1", "٣", "１", "\xff", "1\x00", "1000000000000000000", "9223372036854775808", "18446744073709551617", "18446744073709551616", strings.Repeat("9", 40), "0" + great} {
			wrong(t, strings.Replace(c.line, "?", n, 1), 1)
		}
	}
}

// WHO is held against the workers line ahead, or against 2 where there is none.
func TestWho(t *testing.T) {
	for workers := 1; workers <= 16; workers++ {
		ahead := fmt.Sprintf("workers %d\n", workers)
		for who := range 18 {
			s := fmt.Sprintf("favor %d 1 1\n", who)
			if who < workers {
				right(t, ahead+s, plainly(workers, 64, 3, shell.Part{Kind: 2, Who: who, Every: 1, Count: 1}))
			} else {
				wrong(t, ahead+s, 2)
			}
			if who < 2 {
				right(t, "slots 64\n"+s, plainly(2, 64, 3, shell.Part{Kind: 2, Who: who, Every: 1, Count: 1}))
			} else {
				wrong(t, s+ahead, 1)
			}
		}
	}
	wrong(t, "favor 1 1 1\nworkers 5\nfavor 4 1 1", 2)
	wrong(t, "workers 2\nfavor 1 1 1\nfavor 2 1 1", 3)
}

func TestManyDraws(t *testing.T) {
	for _, number := range []string{"0", "7", great} {
		for n := range 103 {
			s := "draws" + strings.Repeat(" "+number, n)
			if n > 100 {
				wrong(t, s+"\n", 1)
				continue
			}
			got, _, e := shell.Read(s)
			if e != api.OK || len(got.Draws) != n {
				t.Error(n, got, e)
			}
			hold(t, s)
			wrong(t, s+" "+great+"0", 1)
		}
	}
}

func TestManyParts(t *testing.T) {
	for _, part := range []string{"round 1\n", "favor 1 1 1\n", "mixed 1 1\n", "all 1\n"} {
		for _, ahead := range []string{"", "workers 3\n", "#\n\n"} {
			lines := strings.Count(ahead, "\n")
			s := ahead + strings.Repeat(part, 50)
			if got, _, e := shell.Read(s); e != api.OK || len(got.Parts) != 50 {
				t.Error(part, got, e)
			}
			hold(t, s+"\n# x\n")
			for _, more := range []string{"round 1", "favor 1 1 1", "mixed 1 1", "all 1", "all x"} {
				wrong(t, s+more, lines+51)
				wrong(t, s+"\n#\n"+more+"\n"+part, lines+53)
			}
		}
	}
}

const example = "workers 3\nslots 9\nlevels 4\ndraws 1 2\nround 5\nfavor 2 3 4\nmixed 6 7\nall 8\n"

// Empty lines and remarks change nothing, wherever they stand; but nothing else is a remark.
func TestIgnored(t *testing.T) {
	want, _, _ := shell.Read(example)
	lines := strings.Split(strings.TrimSuffix(example, "\n"), "\n")
	for at := range len(lines) + 1 {
		for _, ignored := range []string{"", "#", "# all 5", "#all 5", "##", "#\t\r ü\xff\x00", "\n\n"} {
			with := strings.Join(slices.Insert(slices.Clone(lines), at, ignored), "\n")
			right(t, with, want)
			right(t, with+"\n", want)
		}
		for _, other := range []string{" ", "  ", "\t", "\r", " #", "\t# x", ";", "//", "\v", "\f", "\u00a0", "\u2028", "\ufeff", "\x00", "\xff"} {
			wrong(t, strings.Join(slices.Insert(slices.Clone(lines), at, other), "\n"), at+1)
		}
		if at < len(lines) {
			remark := slices.Clone(lines)
			remark[at] += " # x"
			wrong(t, strings.Join(remark, "\n"), at+1)
			remark[at] = lines[at] + "#"
			wrong(t, strings.Join(remark, "\n"), at+1)
		}
	}
}

// What stands between words, ahead of them and behind them; words of other letters; lines with a word or number less or more.
func TestLines(t *testing.T) {
	lines := strings.Split(strings.TrimSuffix(example, "\n"), "\n")
	try := func(at int, line string) {
		t.Helper()
		changed := slices.Clone(lines)
		changed[at] = line
		wrong(t, strings.Join(changed, "\n"), at+1)
		wrong(t, strings.Join(changed, "\n")+"\n", at+1)
	}
	for at, line := range lines {
		word, rest, _ := strings.Cut(line, " ")
		for _, s := range []string{" " + line, line + " ", line + "  ", "  " + line, "\t" + line, line + "\t", line + "\r", "\r" + line, line + "\x00", "\ufeff" + line, line + " x", line + " -1", "x" + line, line + ";", line + ",", " ", word + rest, word + "  " + rest, word + "\t" + rest, word + "\u00a0" + rest, word + " \t" + rest, word + ":" + rest, word + " " + word + " " + rest, rest, strings.ToUpper(line), strings.ToUpper(word[:1]) + word[1:] + " " + rest, word[:len(word)-1] + " " + rest, word + "s " + rest, "é" + word + " " + rest} {
			try(at, s)
		}
		for k := range line {
			if line[k] == ' ' {
				for _, between := range []string{"  ", "\t", "\r", "", "\u00a0", " \r", ",", ", "} {
					if s := line[:k] + between + line[k+1:]; word != "draws" || between != "" || k < len(word)+1 {
						try(at, s)
					}
				}
			}
		}
		if word != "draws" {
			try(at, word)
			try(at, line+" 1")
			try(at, line[:strings.LastIndex(line, " ")])
		}
	}
	for _, word := range []string{"x", "Round 5", "rounds 5", "rnd 5", "part 5", "pick 1", "run 5", "done", "worker 5", "workers", "slot 5", "level 5", "draw 5", "favour 1 1 1", "mix 1 1", "any 5", "5", "0", "-", "all", "round", "favor", "mixed", "alle 5", "a 5", "workers all 5", "ä", "\xff"} {
		wrong(t, word, 1)
		wrong(t, "# x\n"+word+"\nall 5\n", 2)
	}
}

// 65536 bytes and one more.
func TestLongTexts(t *testing.T) {
	for _, s := range []string{"all 5\n", "", "draws 1 2 3\nworkers 9\nall 1000000\n"} {
		want, _, _ := shell.Read(s)
		for _, filler := range []string{"\n", "#", "ü"} {
			most := s + "#" + strings.Repeat(filler, 65536/len(filler))
			if filler == "\n" {
				most = s + strings.Repeat("\n", 65536)
			}
			most = most[:65536]
			right(t, most, want)
			for _, longer := range []string{most + "\n", most + "x", most + "\xff", most + most, "x\n" + most} {
				if got, at, e := shell.Read(longer); !same(got, shell.Script{}) || at != 0 || e != api.ErrBig {
					t.Errorf("%d bytes: %v, %d, %d", len(longer), got, at, e)
				}
			}
		}
	}
	wrong(t, strings.Repeat("\n", 65535)+"x", 65536)
	wrong(t, strings.Repeat("x\n", 32768), 1)
	wrong(t, strings.Repeat("x", 65536), 1)
	wrong(t, ("draws" + strings.Repeat(" 0", 32768))[:65536], 1)
	wrong(t, ("round " + strings.Repeat("9", 65536))[:65536], 1)
	wrong(t, ("round " + strings.Repeat(" ", 65536))[:65536], 1)
	wrong(t, strings.Repeat("all 5\n", 10922), 51)
}

// pieces are put in, or stand for a byte.
var pieces = []string{"0", "1", "9", "16", "17", "-", "+", " ", "  ", "\n", "\n\n", "\r\n", "\t", "#", "# ", "x", "é\x80", "٣", "\x00", "\xff", great, great + "0", "workers 3\n", "slots 1\n", "levels 6\n", "draws\n", "draws 4 4\n", "round 1\n", "favor 1 1 1\n", "favor 2 2 2\n", "mixed 1 1\n", "all 1\n", "workers", "all ", "round", "favor 0 "}

// Texts in which each byte in turn is another one, is left out, or has something ahead of it, or that end or begin there.
func TestChangedTexts(t *testing.T) {
	r := rand.New(rand.NewSource(411))
	texts := []string{example}
	for len(texts) < 20 {
		if s := spelled(anyScript(r)); len(s) < 200 {
			texts = append(texts, s)
		}
	}
	for k, s := range texts {
		for at := range len(s) + 1 {
			for _, piece := range pieces {
				hold(t, s[:at]+piece+s[at:])
				hold(t, s[:at]+piece)
				hold(t, piece+s[at:])
			}
			hold(t, s[:at])
			hold(t, s[at:])
			if at == len(s) {
				break
			}
			hold(t, s[:at]+s[at+1:])
			for b := range 256 {
				if k < 5 {
					hold(t, s[:at]+string([]byte{byte(b)})+s[at+1:])
				}
			}
		}
	}
}

// Texts of drawn pieces and of drawn lines.
func TestDrawnTexts(t *testing.T) {
	r := rand.New(rand.NewSource(412))
	met := map[api.Errno]int{}
	for range 30000 {
		s := spelled(anyScript(r))
		s = s[:min(len(s), 300)]
		for range r.Intn(4) {
			at := r.Intn(len(s) + 1)
			s = s[:at] + pieces[r.Intn(len(pieces))] + s[min(len(s), at+r.Intn(3)):]
		}
		hold(t, s)
		_, _, e := shell.Read(s)
		met[e]++
	}
	for range 100000 {
		s := ""
		for range r.Intn(9) {
			s += pieces[r.Intn(len(pieces))]
		}
		hold(t, s)
		_, _, e := shell.Read(s)
		met[e]++
	}
	if met[api.OK] < 1000 || met[api.ErrForm] < 1000 {
		t.Error(met)
	}
}

// What Read returns shares no memory with anything else, and its two lists share none.
func TestScriptsAreNew(t *testing.T) {
	r := rand.New(rand.NewSource(413))
	for range 300 {
		want := anyScript(r)
		s := spelled(want)
		first, _, _ := shell.Read(s)
		second, _, _ := shell.Read(s)
		for at := range first.Draws[:cap(first.Draws)] {
			first.Draws[:cap(first.Draws)][at] = -3
		}
		if !slices.Equal(first.Parts, want.Parts) {
			t.Fatal("both lists share memory")
		}
		for at := range first.Parts[:cap(first.Parts)] {
			first.Parts[:cap(first.Parts)][at].Count = -3
		}
		if third, _, _ := shell.Read(s); !same(second, want) || !same(third, want) {
			t.Fatal("two results share memory")
		}
	}
}
