package gen_test

import (
	"fmt"
	"math"
	"math/big"
	"testing"

	"kurgan/api"
	"kurgan/gen"
	"kurgan/inst"
)

// draw is what Draw is to answer for a most that may be, with numbers of any size.
func draw(seed uint64, most int) (int, uint64) {
	next := new(big.Int).SetUint64(seed)
	next.Mul(next, big.NewInt(6364136223846793005))
	next.Add(next, big.NewInt(1442695040888963407))
	next.Mod(next, new(big.Int).Exp(big.NewInt(2), big.NewInt(64), nil))
	n := new(big.Int).Div(next, big.NewInt(1<<33))
	return int(n.Mod(n, big.NewInt(int64(most)+1)).Int64()), next.Uint64()
}

func TestDraw(t *testing.T) {
	// Rounded down, 1442695040888963407 / 2^33 is 167951807.
	if n, next := gen.Draw(0, 9); n != 7 || next != 1442695040888963407 {
		t.Error(n, next)
	}
	seeds := []uint64{0, 1, 2, 1 << 31, 1 << 32, 1 << 33, 1<<63 - 1, 1 << 63, math.MaxUint64 - 1, math.MaxUint64}
	for _, seed := range seeds {
		for _, most := range []int{0, 1, 2, 9, 10, 1 << 16, 1<<31 - 2, 1<<31 - 1} {
			at := seed
			for range 200 {
				n, next := gen.Draw(at, most)
				wantN, wantNext := draw(at, most)
				if n != wantN || next != wantNext {
					t.Fatalf("Draw(%d, %d) = %d, %d, not %d, %d", at, most, n, next, wantN, wantNext)
				}
				at = next
			}
		}
		for _, most := range []int{math.MinInt, -1 << 31, -2, -1, 1 << 31, 1<<31 + 1, 1 << 32, math.MaxInt} {
			if n, next := gen.Draw(seed, most); n != 0 || next != seed {
				t.Errorf("Draw(%d, %d) = %d, %d", seed, most, n, next)
			}
		}
	}
}

// made is the problem that Make is to answer where nothing is wrong.
func made(kind, n, most int, seed uint64) api.Instance {
	count := n * n
	if kind == 1 {
		count = 2 * n
	} else if kind == 3 {
		count = n * (n - 1)
	}
	var l []int
	for range count {
		var k int
		k, seed = draw(seed, most)
		l = append(l, k)
	}
	i := api.Instance{Kind: kind, N: n}
	if kind == 1 {
		sum := new(big.Int)
		for k := 0; k < count; k += 2 {
			i.Weight, i.Value = append(i.Weight, l[k]), append(i.Value, l[k+1])
			sum.Add(sum, big.NewInt(int64(l[k])))
		}
		i.Cap = int(min(sum.Rsh(sum, 1).Int64(), 1<<31-1))
		return i
	}
	for a := range n {
		if kind == 2 {
			i.Cost = append(i.Cost, l[a*n:a*n+n])
			continue
		}
		rest := l[a*(n-1) : (a+1)*(n-1)]
		i.Cost = append(i.Cost, append(append(append([]int{}, rest[:a]...), 0), rest[a:]...))
	}
	return i
}

func TestMake(t *testing.T) {
	capped := false
	for kind := 1; kind <= 3; kind++ {
		for n := 1; n <= 64 && (kind == 1 || n <= 24); n++ {
			for _, most := range []int{0, 1, 7, 1000, 1<<31 - 1} {
				for _, seed := range []uint64{0, 1, 77, math.MaxUint64} {
					i, e := gen.Make(kind, n, most, seed)
					want := made(kind, n, most, seed)
					if e != api.OK || fmt.Sprint(i) != fmt.Sprint(want) {
						t.Fatalf("Make(%d, %d, %d, %d) = %v, %d, not %v", kind, n, most, seed, i, e, want)
					}
					if e := inst.Check(i); e != api.OK {
						t.Fatalf("Make(%d, %d, %d, %d) is not valid: %d", kind, n, most, seed, e)
					}
					capped = capped || i.Cap == 1<<31-1
				}
			}
		}
	}
	if !capped {
		t.Error("no room was cut at its limit")
	}
}

func TestErrors(t *testing.T) {
	for _, kind := range []int{math.MinInt, -1, 0, 1, 2, 3, 4, math.MaxInt} {
		limit := 24
		if kind == 1 {
			limit = 64
		}
		for _, n := range []int{math.MinInt, -1, 0, 1, 2, 24, 25, 64, 65, math.MaxInt} {
			for _, most := range []int{math.MinInt, -1, 0, 1, 1<<31 - 1, 1 << 31, math.MaxInt} {
				want := api.OK
				switch {
				case kind < 1 || kind > 3:
					want = api.ErrKind
				case n < 1 || most < 0 || most > 1<<31-1:
					want = api.ErrArg
				case n > limit:
					want = api.ErrBig
				}
				i, e := gen.Make(kind, n, most, 5)
				if e != want || e != api.OK && !inst.Same(i, api.Instance{}) {
					t.Errorf("Make(%d, %d, %d, 5) = %v, %d, not %d", kind, n, most, i, e, want)
				}
			}
		}
	}
}

func TestListsOfTheirOwn(t *testing.T) {
	for kind := 1; kind <= 3; kind++ {
		i, _ := gen.Make(kind, 4, 1000, 3)
		before := inst.Copy(i)
		l := append([][]int{i.Weight, i.Value}, i.Cost...)
		for x, numbers := range l {
			for k := range numbers[:cap(numbers)] {
				numbers[:cap(numbers)][k] = -7
			}
			for _, other := range append(l[:x:x], l[x+1:]...) {
				for _, n := range other {
					if n == -7 {
						t.Error("two lists share numbers", kind)
					}
				}
			}
			for k := range numbers {
				numbers[k] = -8
			}
		}
		if again, _ := gen.Make(kind, 4, 1000, 3); !inst.Same(before, again) {
			t.Error("a change of an answer changed the next", kind)
		}
	}
}
