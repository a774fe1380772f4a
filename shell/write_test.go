package shell_test

import (
	"math"
	"math/rand"
	"slices"
	"testing"

	"kurgan/api"
	"kurgan/shell"
	"kurgan/solver"
)

// refused holds that a script has no text.
func refused(t *testing.T, s shell.Script) {
	t.Helper()
	if got, e := shell.Write(s); got != "" || e != api.ErrForm {
		t.Errorf("Write(%v) = %q, %d", s, got, e)
	}
}

func TestWrite(t *testing.T) {
	s := plainly(3, 9, 4, shell.Part{Kind: 2, Who: 2, Every: 5, Count: 30}, shell.Part{Kind: 1, Count: 10}, shell.Part{Kind: 4, Count: 1000000}, shell.Part{Kind: 3, Count: 8, Seed: 1e18 - 1})
	s.Draws = []int{4, 0, 1e18 - 1}
	const want = "workers 3\nslots 9\nlevels 4\ndraws 4 0 999999999999999999\nfavor 2 5 30\nround 10\nall 1000000\nmixed 8 999999999999999999\n"
	if got, e := shell.Write(s); got != want || e != api.OK {
		t.Errorf("%q, %d", got, e)
	}
	for _, draws := range [][]int{nil, {}} {
		s = plainly(2, 64, 3)
		s.Draws, s.Parts = draws, []shell.Part{}
		if got, e := shell.Write(s); got != "workers 2\nslots 64\nlevels 3\n" || e != api.OK {
			t.Errorf("%q, %d", got, e)
		}
	}
	refused(t, shell.Script{})
	refused(t, shell.Script{Parts: []shell.Part{{Kind: 1}}})
}

func TestWriteConfigs(t *testing.T) {
	for _, c := range []struct {
		of   func(int) solver.Config
		most int
	}{
		{func(n int) solver.Config { return solver.Config{Workers: n, Slots: 1, Levels: 1} }, 16},
		{func(n int) solver.Config { return solver.Config{Workers: 1, Slots: n, Levels: 1} }, 4096},
		{func(n int) solver.Config { return solver.Config{Workers: 1, Slots: 1, Levels: n} }, 6},
	} {
		for n := 1; n <= c.most; n++ {
			holdText(t, shell.Script{Config: c.of(n)})
		}
		for _, n := range []int{0, -1, -c.most, c.most + 1, 10 * c.most, math.MaxInt, math.MinInt, 1 << 32, 1<<32 + 1} {
			refused(t, shell.Script{Config: c.of(n)})
		}
	}
}

// Each number of a Part one below its least and one above its greatest value; a Kind that there isn't.
func TestWriteParts(t *testing.T) {
	for _, p := range []shell.Part{
		{Kind: 1}, {Kind: 1, Count: 1000000}, {Kind: 4}, {Kind: 4, Count: 1000000}, {Kind: 3}, {Kind: 3, Count: 1000000}, {Kind: 3, Seed: 1e18 - 1}, {Kind: 2, Every: 1}, {Kind: 2, Every: 1000000}, {Kind: 2, Every: 1, Count: 1000000}, {Kind: 2, Who: 4, Every: 1},
	} {
		holdText(t, plainly(5, 6, 6, p))
		holdText(t, plainly(5, 6, 6, shell.Part{Kind: 4, Count: 5}, p, p))
	}
	for _, p := range []shell.Part{
		{}, {Kind: -1}, {Kind: 5}, {Kind: 0, Count: 5}, {Kind: 5, Count: 5}, {Kind: math.MaxInt}, {Kind: math.MinInt}, {Kind: -4, Count: 1}, {Kind: 1 << 32, Count: 1},
		{Kind: 1, Count: -1}, {Kind: 1, Count: 1000001}, {Kind: 4, Count: -1}, {Kind: 4, Count: 1000001}, {Kind: 3, Count: -1}, {Kind: 3, Count: 1000001}, {Kind: 2, Every: 1, Count: -1}, {Kind: 2, Every: 1, Count: 1000001}, {Kind: 1, Count: math.MinInt}, {Kind: 4, Count: math.MaxInt},
		{Kind: 2}, {Kind: 2, Every: -1}, {Kind: 2, Every: 1000001}, {Kind: 2, Who: -1, Every: 1}, {Kind: 2, Who: 5, Every: 1}, {Kind: 2, Who: math.MaxInt, Every: 1}, {Kind: 2, Every: math.MinInt},
		{Kind: 3, Seed: 1e18}, {Kind: 3, Seed: math.MaxInt}, {Kind: 3, Seed: 1 << 63}, {Kind: 3, Seed: math.MaxUint64}, {Kind: 3, Seed: math.MaxUint64 - 5}, {Kind: 3, Seed: 1<<63 + 5},
		{Kind: 1, Who: 1}, {Kind: 1, Every: 1}, {Kind: 1, Seed: 1}, {Kind: 4, Who: 1}, {Kind: 4, Every: 1}, {Kind: 4, Seed: 1}, {Kind: 3, Who: 1}, {Kind: 3, Every: 1}, {Kind: 2, Every: 1, Seed: 1}, {Kind: 1, Who: -1}, {Kind: 4, Every: -1}, {Kind: 1, Seed: 1 << 63},
	} {
		refused(t, plainly(5, 6, 6, p))
		refused(t, plainly(5, 6, 6, shell.Part{Kind: 4, Count: 5}, p))
		refused(t, plainly(5, 6, 6, p, shell.Part{Kind: 4, Count: 5}))
	}
	for workers := 1; workers <= 16; workers++ {
		for who := -1; who < 18; who++ {
			s := plainly(workers, 6, 6, shell.Part{Kind: 2, Who: who, Every: 1})
			if who >= 0 && who < workers {
				holdText(t, s)
			} else {
				refused(t, s)
			}
		}
	}
}

func TestWriteManyDraws(t *testing.T) {
	for n := range 104 {
		s := plainly(1, 1, 1)
		s.Draws = slices.Repeat([]int{7}, n)
		if n > 100 {
			refused(t, s)
			continue
		}
		holdText(t, s)
		for _, other := range []int{-1, 1e18, math.MaxInt, math.MinInt} {
			for _, at := range []int{0, n / 2, n - 1} {
				if n > 0 {
					s.Draws = slices.Repeat([]int{7}, n)
					s.Draws[at] = other
					refused(t, s)
				}
			}
		}
	}
	s := plainly(1, 1, 1)
	s.Draws = make([]int, 1<<24)
	refused(t, s)
}

func TestWriteManyParts(t *testing.T) {
	for _, p := range []shell.Part{{Kind: 1}, {Kind: 2, Every: 1}, {Kind: 3}, {Kind: 4}} {
		holdText(t, plainly(1, 1, 1, slices.Repeat([]shell.Part{p}, 50)...))
		refused(t, plainly(1, 1, 1, slices.Repeat([]shell.Part{p}, 51)...))
		refused(t, plainly(1, 1, 1, slices.Repeat([]shell.Part{p}, 1<<20)...))
		// an empty line would be ignored: what has a Kind that there isn't counts all the same
		refused(t, plainly(1, 1, 1, append(slices.Repeat([]shell.Part{p}, 50), shell.Part{})...))
		refused(t, plainly(1, 1, 1, append(slices.Repeat([]shell.Part{p}, 49), shell.Part{Kind: 5})...))
	}
}

// may: would Read return it for the chapter's text of it?
func may(s shell.Script) bool {
	read, _, e := plainRead(spelled(s))
	return e == api.OK && same(read, s)
}

// anyNumber is a number that is often near one end of some range.
func anyNumber(r *rand.Rand) int {
	l := []int{0, 1, 2, 6, 16, 4096, 1000000, 1e18 - 1, 1e18, math.MaxInt, math.MinInt, -1e18}
	return l[r.Intn(len(l))] + r.Intn(3) - 1
}

// Scripts with one thing changed.
func TestChangedScripts(t *testing.T) {
	r := rand.New(rand.NewSource(421))
	met := [2]int{}
	for range 12000 {
		s := anyScript(r)
		parts, draws := len(s.Parts), len(s.Draws)
		switch n := anyNumber(r); r.Intn(9) {
		case 0:
			s.Config.Workers = n
		case 1:
			s.Config.Slots = n
		case 2:
			s.Config.Levels = n
		case 3:
			if draws > 0 {
				s.Draws[r.Intn(draws)] = n
			}
		default:
			if parts > 0 {
				p := &s.Parts[r.Intn(parts)]
				*[]*int{&p.Kind, &p.Count, &p.Who, &p.Every}[r.Intn(4)] = n
				if r.Intn(3) == 0 {
					p.Seed = uint64(n)
				}
			}
		}
		if may(s) {
			met[1]++
			holdText(t, s)
		} else {
			met[0]++
			refused(t, s)
		}
	}
	if met[0] < 1000 || met[1] < 1000 {
		t.Error(met)
	}
}

// Write changes nothing of what it is given, nor what lies behind it.
func TestWriteKeeps(t *testing.T) {
	r := rand.New(rand.NewSource(422))
	for range 300 {
		want := anyScript(r)
		s := copied(want)
		s.Draws, s.Parts = append(s.Draws, 77)[:len(s.Draws)], append(s.Parts, shell.Part{Kind: 77})[:len(s.Parts)]
		shell.Write(s)
		if !same(s, want) || s.Draws[:len(s.Draws)+1][len(s.Draws)] != 77 || s.Parts[:len(s.Parts)+1][len(s.Parts)].Kind != 77 {
			t.Fatal(s, want)
		}
	}
}
