package cell_test

import (
	"math"
	"math/big"
	"testing"

	"kurgan/cell"
)

const (
	versions = 1 << 30
	mostSlot = 1<<31 - 2 // the greatest place
)

// power is 2 to a number.
func power(n uint) *big.Int { return new(big.Int).Lsh(big.NewInt(1), n) }

// packed is the packed number by the words of the chapter, with numbers of any size.
func packed(version, place int) int {
	if place < -1 || place > mostSlot {
		place = -1
	}
	n := new(big.Int).Mod(big.NewInt(int64(version)), power(30)) // which is never negative
	n.Mul(n, power(32))
	n.Add(n, big.NewInt(int64(place)))
	return int(n.Add(n, big.NewInt(1)).Int64())
}

func manyVersions() []int {
	return []int{
		math.MinInt, math.MinInt + 1, -1 << 40, -versions - 1, -versions, -versions + 1, -2, -1, 0, 1, 2, 5,
		versions/2 - 1, versions / 2, versions - 2, versions - 1, versions, versions + 1, 1 << 31, 1 << 32, 1 << 62, math.MaxInt,
	}
}

func manyPlaces() []int {
	return []int{math.MinInt, -1 << 31, -3, -2, -1, 0, 1, 5, 4095, 1<<30 - 1, mostSlot - 1, mostSlot, mostSlot + 1, 1 << 31, 1<<32 - 1, 1 << 32, math.MaxInt}
}

func TestPack(t *testing.T) {
	for _, c := range []struct{ version, place, want int }{
		{2, 5, 2*(1<<32) + 6},
		{0, -1, 0},
		{0, 0, 1},
		{0, -2, 0},
		{0, mostSlot, 1<<31 - 1},
		{0, mostSlot + 1, 0},
		{1, -1, 1 << 32},
		{versions, 3, 4},
		{-1, -1, (1<<30 - 1) << 32},
		{versions - 1, mostSlot, (1<<30-1)<<32 + 1<<31 - 1},
	} {
		if got := cell.Pack(c.version, c.place); got != c.want {
			t.Errorf("Pack(%d, %d) = %d, not %d", c.version, c.place, got, c.want)
		}
	}
	for _, version := range manyVersions() {
		for _, place := range manyPlaces() {
			if got, want := cell.Pack(version, place), packed(version, place); got != want || got < 0 {
				t.Errorf("Pack(%d, %d) = %d, not %d", version, place, got, want)
			}
		}
	}
}

// Each packed number tells its version and place, whatever stands above its lowest 62 bits.
func TestUnpack(t *testing.T) {
	for version := range 70 {
		version = version * (versions - 1) / 69
		for _, place := range []int{-1, 0, 1, 4095, 1 << 30, mostSlot - 1, mostSlot} {
			n := packed(version, place)
			for _, above := range []int{0, 1 << 62, math.MinInt, math.MinInt + 1<<62} { // the two highest bits
				if v, p := cell.Unpack(n + above); v != version || p != place {
					t.Errorf("Unpack(%d) = %d, %d, not %d, %d", n+above, v, p, version, place)
				}
			}
		}
	}
	for _, c := range []struct{ n, version, place int }{
		{0, 0, -1},
		{1, 0, 0},
		{math.MinInt, 0, -1},
		{1 << 62, 0, -1},
		{math.MinInt + 8, 0, 7},
		{-1 << 32, versions - 1, -1},
		{-1<<32 + 5, versions - 1, 4},
		{-2 << 32, versions - 2, -1},
	} {
		if v, p := cell.Unpack(c.n); v != c.version || p != c.place {
			t.Errorf("Unpack(%d) = %d, %d, not %d, %d", c.n, v, p, c.version, c.place)
		}
	}
}

func TestUp(t *testing.T) {
	if n := cell.Up(cell.Pack(versions-1, -1), -1); n != 0 {
		t.Error("the last version:", n)
	}
	for _, version := range manyVersions() {
		for _, old := range manyPlaces() {
			for _, place := range manyPlaces() {
				n, want := packed(version, old), packed(version%versions+1, place)
				for _, above := range []int{0, 1 << 62, math.MinInt} {
					if got := cell.Up(n+above, place); got != want {
						t.Errorf("Up(%d, %d) = %d, not %d", n+above, place, got, want)
					}
				}
			}
		}
	}
}

// A number that is no packed one, since a bit between place and version is set, has a version all the same.
func TestNoPackedNumber(t *testing.T) {
	for _, n := range []int{-1, -2, 1<<32 - 1, 1 << 31, math.MaxInt} {
		version, _ := cell.Unpack(n)
		if want := (n >> 32) & (versions - 1); version != want {
			t.Errorf("Unpack(%d) has the version %d, not %d", n, version, want)
		}
		if got, want := cell.Up(n, 6), packed((n>>32)+1, 6); got != want {
			t.Errorf("Up(%d, 6) = %d, not %d", n, got, want)
		}
	}
}
