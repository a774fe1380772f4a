package tape_test

import (
	"math"
	"math/big"
	"slices"
	"testing"

	"kurgan/gen"
	"kurgan/tape"
)

// numbers are of all sizes, some of them negative.
func numbers() []int {
	return []int{0, 5, 1, -1, -2, -7, 16, 17, 1 << 31, -1 << 31, math.MaxInt, math.MinInt, math.MinInt + 1, math.MaxInt - 1, 3}
}

// reduced is a number, taken as an unsigned one of 64 bits, modulo n.
func reduced(number, n int) int {
	k := big.NewInt(int64(number))
	if number < 0 {
		k.Add(k, new(big.Int).Lsh(big.NewInt(1), 64))
	}
	return int(k.Mod(k, big.NewInt(int64(n))).Int64())
}

func holdUsed(t *testing.T, p *tape.Tape, picks, draws int) {
	t.Helper()
	if a, b := p.Used(); a != picks || b != draws {
		t.Fatalf("Used: %d, %d, not %d, %d", a, b, picks, draws)
	}
}

// Picks and draws, up to the last one and behind it, and each independent of the other.
func TestPicksAndDraws(t *testing.T) {
	sizes := []int{1, 2, 3, 7, 16, 17, 1000, 1 << 32, math.MaxInt - 1, math.MaxInt}
	for length := range len(numbers()) + 1 {
		picks, draws := numbers()[:length], numbers()[len(numbers())-length:]
		for at := range sizes {
			p, q, d := tape.New(picks, nil), tape.New(nil, draws), tape.New(picks, draws)
			for k := range length + 20 {
				n := sizes[(at+k)%len(sizes)]
				pick, draw := k%n, 0
				if k < length {
					pick, draw = reduced(picks[k], n), reduced(draws[k], n)
				}
				if got, both := p.Pick(n), d.Pick(n); got != pick || both != pick {
					t.Fatalf("pick %d of %v: Pick(%d) = %d, %d, not %d", k, picks, n, got, both, pick)
				}
				holdUsed(t, p, k+1, 0)
				holdUsed(t, d, k+1, k)
				if got, both := q.Draw(n), d.Draw(n); got != draw || both != draw {
					t.Fatalf("draw %d of %v: Draw(%d) = %d, %d, not %d", k, draws, n, got, both, draw)
				}
				holdUsed(t, q, 0, k+1)
				holdUsed(t, d, k+1, k+1)
			}
		}
	}
}

func TestExamples(t *testing.T) {
	p := tape.New([]int{5, 1}, nil)
	if a, b, c := p.Pick(3), p.Pick(3), p.Pick(3); a != 2 || b != 1 || c != 2 {
		t.Error(a, b, c)
	}
	if n := p.Draw(3); n != 0 {
		t.Error(n)
	}
	if l := tape.Favor(2, 1, 3, 7); !slices.Equal(l, []int{1, 1, 0, 1, 1, 1, 1}) {
		t.Error(l)
	}
	// 2^64 - 1 modulo 10, not -1 modulo 10
	if n := tape.New([]int{-1}, nil).Pick(10); n != 5 {
		t.Error(n)
	}
}

// Of no number, or of fewer, nothing is used.
func TestOfNoNumber(t *testing.T) {
	p := tape.New([]int{4, 6}, []int{5, 7})
	of := func(n, pick, draw int) {
		t.Helper()
		if a, b := p.Pick(n), p.Draw(n); a != pick || b != draw {
			t.Fatalf("of %d: %d, %d, not %d, %d", n, a, b, pick, draw)
		}
	}
	none := func(used int) {
		t.Helper()
		for _, n := range []int{0, -1, -2, math.MinInt} {
			of(n, 0, 0)
			holdUsed(t, p, used, used)
		}
	}
	none(0)
	of(10, 4, 5)
	none(1)
	of(1, 0, 0) // which uses one of each
	none(2)
	of(10, 2, 0)
	none(3)
}

func TestNilAndEmptyTapes(t *testing.T) {
	var p *tape.Tape
	for _, n := range []int{math.MinInt, -1, 0, 1, 5, math.MaxInt} {
		if a, b := p.Pick(n), p.Draw(n); a != 0 || b != 0 {
			t.Error(n, a, b)
		}
	}
	holdUsed(t, p, 0, 0)
	for _, p := range []*tape.Tape{tape.New(nil, nil), tape.New([]int{}, []int{}), {}} {
		holdUsed(t, p, 0, 0)
		for k := range 7 {
			if a, b := p.Pick(3), p.Draw(3); a != k%3 || b != 0 {
				t.Error(k, a, b)
			}
		}
		holdUsed(t, p, 7, 7)
	}
}

// The lists that are handed in, and the room behind them, are neither kept nor changed.
func TestListsOfItsOwn(t *testing.T) {
	picks, draws := numbers(), numbers()
	p := tape.New(picks[:3], draws[:3])
	for k := range 3 {
		picks[k], draws[k] = 999, 999
	}
	for k := range 6 {
		pick, draw := k%100, 0
		if k < 3 {
			pick, draw = numbers()[k], numbers()[k]
		}
		if a, b := p.Pick(100), p.Draw(100); a != pick || b != draw {
			t.Errorf("%d: %d, %d, not %d, %d", k, a, b, pick, draw)
		}
	}
	for k := range 3 {
		if picks[k] != 999 || draws[k] != 999 {
			t.Error("a list was changed:", picks, draws)
		}
	}
	if !slices.Equal(picks[3:], numbers()[3:]) || !slices.Equal(draws[3:], numbers()[3:]) {
		t.Error("what stands behind a list was changed:", picks, draws)
	}
	same := []int{1, 2, 3} // one list as both
	p = tape.New(same, same)
	for k := range 3 {
		if a, b := p.Pick(9), p.Draw(9); a != same[k] || b != same[k] {
			t.Error(k, a, b)
		}
	}
}

// hold: a list has so many numbers, each of them as wanted; and is new memory.
func hold(t *testing.T, what string, count int, list func() []int, want func(k int) int) {
	t.Helper()
	l := list()
	if len(l) != count {
		t.Fatalf("%s: %d numbers, not %d", what, len(l), count)
	}
	for k, n := range l {
		if n != want(k) {
			t.Fatalf("%s: the number at %d is %d, not %d", what, k, n, want(k))
		}
		l[k] = -9
	}
	if again := list(); len(again) > 0 && again[0] == -9 {
		t.Fatalf("%s: a change of an answer changed the next", what)
	}
}

func manyCounts() []int { return []int{0, 1, 2, 3, 16, 17, 18, 100, 1000} }

func TestRound(t *testing.T) {
	for n := 1; n <= 16; n++ {
		for _, count := range manyCounts() {
			hold(t, "Round", count, func() []int { return tape.Round(n, count) }, func(k int) int { return k % n })
		}
	}
}

func TestFavor(t *testing.T) {
	for n := 1; n <= 16; n++ {
		for who := range n {
			for _, every := range []int{1, 2, 3, 5, 99, 100, 101, math.MaxInt - 1, math.MaxInt} {
				for _, count := range manyCounts() {
					want := slices.Repeat([]int{who}, count)
					turn := 0
					for k := every - 1; k < count; k += every {
						want[k] = turn
						turn = (turn + 1) % n
					}
					hold(t, "Favor", count, func() []int { return tape.Favor(n, who, every, count) }, func(k int) int { return want[k] })
				}
			}
		}
	}
}

func TestMixed(t *testing.T) {
	for n := 1; n <= 16; n++ {
		for _, seed := range []uint64{0, 1, 7, 1 << 63, math.MaxUint64} {
			for _, count := range manyCounts() {
				next := seed
				want := func(int) (number int) {
					number, next = gen.Draw(next, n-1)
					return number
				}
				hold(t, "Mixed", count, func() []int { return tape.Mixed(n, count, seed) }, want)
			}
		}
	}
	seen := map[int]int{}
	for _, n := range tape.Mixed(16, 1000, 3) {
		seen[n]++
	}
	if len(seen) != 16 {
		t.Error("some numbers are never drawn:", seen)
	}
}

// At the limits and one beyond them.
func TestLimits(t *testing.T) {
	const most = 1000000
	for _, n := range []int{math.MinInt, -1, 0, 1, 16, 17, math.MaxInt} {
		for _, count := range []int{math.MinInt, -1, 0, 1, most, most + 1, math.MaxInt} {
			length := count
			if n < 1 || n > 16 || count < 0 || count > most {
				length = 0
			}
			for what, l := range map[string][]int{"Round": tape.Round(n, count), "Favor": tape.Favor(n, 0, 2, count), "Mixed": tape.Mixed(n, count, 5)} {
				if len(l) != length {
					t.Errorf("%s of %d, %d: %d numbers, not %d", what, n, count, len(l), length)
				}
			}
		}
	}
	for _, n := range []int{1, 2, 16} {
		for _, who := range []int{math.MinInt, -1, 0, n - 1, n, n + 1, math.MaxInt} {
			for _, every := range []int{math.MinInt, -1, 0, 1, 2, math.MaxInt} {
				length := 5
				if who < 0 || who >= n || every < 1 {
					length = 0
				}
				if l := tape.Favor(n, who, every, 5); len(l) != length {
					t.Errorf("Favor(%d, %d, %d, 5) = %v", n, who, every, l)
				}
			}
		}
	}
	if l := tape.Round(16, most); l[most-1] != (most-1)%16 {
		t.Error(l[most-1])
	}
	if l := tape.Favor(16, 9, most, most); l[most-2] != 9 || l[most-1] != 0 {
		t.Error(l[most-2:])
	}
}
