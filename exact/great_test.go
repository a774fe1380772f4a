package exact_test

import (
	"math"
	"math/rand"
	"slices"
	"testing"

	"kurgan/api"
)

const greatest = math.MaxInt32

// leastLeft is the lowest cost of all choices of items, each of which is a number whose bits tell what is taken.
func leastLeft(i api.Instance) int {
	best := math.MaxInt
	weight, worth := make([]int, 1<<i.N), make([]int, 1<<i.N)
	total := 0
	for _, n := range i.Value {
		total += n
	}
	for item := range i.N {
		for rest := range 1 << item {
			weight[rest+1<<item] = weight[rest] + i.Weight[item]
			worth[rest+1<<item] = worth[rest] + i.Value[item]
		}
	}
	for choice, w := range weight {
		if w <= i.Cap {
			best = min(best, total-worth[choice])
		}
	}
	return best
}

func holdItems(t *testing.T, i api.Instance) {
	t.Helper()
	if x, cost := hold(t, i); cost != leastLeft(i) {
		t.Fatalf("%v: %v costs %d, another one %d", i, x, cost, leastLeft(i))
	}
}

// Held against all choices: most of all 18 items, which is as many as there may be.
func TestManyItems(t *testing.T) {
	r := rand.New(rand.NewSource(54))
	for n := 10; n <= 18; n++ {
		for _, top := range []int{2, 5, 100, 1 << 31} {
			for range 2 {
				holdItems(t, draw(r, 1, n, top))
			}
		}
	}
	for range 8 { // weights and values that go together leave most choices open
		i := draw(r, 1, 18, 1000)
		for item, weight := range i.Weight {
			i.Value[item] = weight + r.Intn(3)
		}
		holdItems(t, i)
	}
}

func TestEighteenItems(t *testing.T) {
	const n = 18
	powers := list(n, func(k int) int { return 1 << k })
	falling := list(n, func(k int) int { return 1 << (n - 1 - k) })
	rising := list(n, func(k int) int { return k + 1 })
	none := make([]int, n)
	half := list(n, func(k int) int { return k % 2 * 3 })
	top := slices.Repeat([]int{greatest}, n)
	for _, i := range []api.Instance{
		knapsack(1<<n-1, powers, powers),   // no choice is of no use, and all have room
		knapsack(1<<n-2, powers, powers),   // all but the lightest have room
		knapsack(123456, falling, falling), // one choice alone fills the room
		knapsack(123456, powers, falling),
		knapsack(0, powers, powers),
		knapsack(0, none, rising),
		knapsack(0, half, rising),
		knapsack(20, half, rising),
		knapsack(20, rising, none),
		knapsack(50, rising, rising),
		knapsack(50, rising, slices.Repeat([]int{7}, n)),
		knapsack(50, slices.Repeat([]int{7}, n), rising),
		knapsack(49, slices.Repeat([]int{7}, n), slices.Repeat([]int{7}, n)),
		knapsack(n*(n+1)/2, rising, powers),
		knapsack(n*(n+1)/2-1, rising, powers),
		knapsack(greatest, top, top),
		knapsack(greatest-1, top, top),
		knapsack(greatest, none, top),
		knapsack(greatest, top, rising),
		knapsack(greatest, slices.Repeat([]int{greatest / 3}, n), top),
	} {
		holdItems(t, i)
		slices.Reverse(i.Weight)
		slices.Reverse(i.Value)
		holdItems(t, i)
	}
}

// cheaper reports whether there is a tour that costs less; leastOut are the least costs to go on from each city.
func cheaper(i api.Instance, leastOut []int, x []int, spent, cost int) bool {
	here := x[len(x)-1]
	if len(x) == i.N {
		return spent+i.Cost[here][0] < cost
	}
	bound := spent
	for city := range i.N {
		if city == here || !slices.Contains(x, city) {
			bound += leastOut[city]
		}
	}
	if bound >= cost {
		return false
	}
	for city := range i.N {
		if !slices.Contains(x, city) && cheaper(i, leastOut, append(x, city), spent+i.Cost[here][city], cost) {
			return true
		}
	}
	return false
}

func holdTour(t *testing.T, i api.Instance) int {
	t.Helper()
	x, cost := hold(t, i)
	var leastOut []int
	for a, row := range i.Cost {
		leastOut = append(leastOut, slices.Min(slices.Delete(slices.Clone(row), a, a+1)))
	}
	if cheaper(i, leastOut, append(make([]int, 0, i.N), 0), 0, cost) {
		t.Fatalf("%v: %v costs %d, and another one less", i, x, cost)
	}
	return cost
}

// Held against all tours but those whose beginnings cost too much: most of all of 12 cities, which is as many as there may be.
func TestManyCities(t *testing.T) {
	r := rand.New(rand.NewSource(55))
	for _, n := range []int{7, 8, 9, 10, 11, 12, 12} {
		for _, top := range []int{2, 10, 1000, 1 << 31} {
			holdTour(t, draw(r, 3, n, top))
			holdTour(t, mirrored(draw(r, 3, n, top)))
		}
	}
}

// A tour is hidden among ways that cost more, by prices for leaving and for coming.
func TestHiddenTours(t *testing.T) {
	r := rand.New(rand.NewSource(56))
	for n := 2; n <= 12; n++ {
		for range 20 {
			next := make([]int, n)
			x := append(r.Perm(n-1), n-1)
			for k := range x {
				next[x[k]] = x[(k+1)%n]
			}
			if _, cost := hold(t, hidden(r, 3, next)); cost != hiddenCost(n) {
				t.Fatalf("%d cities: %d", n, cost)
			}
		}
	}
}

// hidden costs so much for each row a and each column b, and somewhat more but where b is next of a.
func hidden(r *rand.Rand, kind int, next []int) api.Instance {
	n := len(next)
	i := even(kind, n, 0, 0)
	for a := range n {
		for b := range n {
			i.Cost[a][b] = 100*a + 7*b*b
			if next[a] != b {
				i.Cost[a][b] += r.Intn(60)
			}
			if kind == 3 && a == b {
				i.Cost[a][b] = 0
			}
		}
	}
	return i
}

func hiddenCost(n int) int {
	cost := 0
	for k := range n {
		cost += 100*k + 7*k*k
	}
	return cost
}

func TestTwelveCities(t *testing.T) {
	const n = 12
	circle := even(3, n, 0, 0) // by the shorter way round
	one := even(3, n, 0, 0)    // the way on costs 1, all others the most
	line := even(3, n, 0, 0)   // there and back
	for a := range n {
		for b := range n {
			apart := max(a-b, b-a)
			circle.Cost[a][b] = min(apart, n-apart)
			line.Cost[a][b] = apart * apart
			if one.Cost[a][b] = greatest; b == (a+5)%n {
				one.Cost[a][b] = 1
			}
			if a == b {
				one.Cost[a][b] = 0
			}
		}
	}
	for _, c := range []struct {
		what string
		i    api.Instance
		cost int
	}{
		{"equal costs", even(3, n, 0, 5), 5 * n},
		{"nothing costs anything", even(3, n, 0, 0), 0},
		{"the greatest numbers", even(3, n, 0, greatest), n * greatest},
		{"a circle", circle, n},
		{"one way on from each", one, n},
		{"a line", line, 2 + 4*(n-2)}, // each second one on the way there, the others on the way back
	} {
		if cost := holdTour(t, c.i); cost != c.cost {
			t.Errorf("%s: %d, not %d", c.what, cost, c.cost)
		}
	}
}

// Two cities and a few more, at the greatest numbers.
func TestGreatestNumbers(t *testing.T) {
	for n := 1; n <= 24; n++ {
		if _, cost := hold(t, even(2, n, 0, greatest)); cost != n*greatest {
			t.Errorf("%d rows: %d", n, cost)
		}
		want := n * greatest
		if n == 1 {
			want = 0
		}
		if n <= 12 {
			if _, cost := hold(t, even(3, n, 0, greatest)); cost != want {
				t.Errorf("%d cities: %d", n, cost)
			}
		}
		if n <= 18 {
			if _, cost := hold(t, even(1, n, greatest, greatest)); cost != (n-1)*greatest {
				t.Errorf("%d items: %d", n, cost)
			}
		}
	}
}

// holdRows: if rows could change their columns in a round and cost less, there would be a round of negative length; without one nothing costs less.
func holdRows(t *testing.T, i api.Instance) int {
	t.Helper()
	x, cost := hold(t, i)
	far := make([][]int, i.N) // from a row to another one that takes over its column
	for a := range i.N {
		far[a] = list(i.N, func(b int) int { return i.Cost[a][x[b]] - i.Cost[a][x[a]] })
	}
	for c := range i.N {
		for a := range i.N {
			for b := range i.N {
				far[a][b] = min(far[a][b], far[a][c]+far[c][b])
			}
			if far[a][a] < 0 {
				t.Fatalf("%v: %v costs %d, and another one less", i, x, cost)
			}
		}
	}
	return cost
}

func TestManyRows(t *testing.T) {
	r := rand.New(rand.NewSource(57))
	for n := 1; n <= 24; n++ {
		for _, top := range []int{1, 2, 3, 10, 1000, 1 << 31} {
			for range 5 {
				holdRows(t, draw(r, 2, n, top))
			}
		}
	}
	for n := 1; n <= 24; n++ {
		for range 20 {
			if cost := holdRows(t, hidden(r, 2, r.Perm(n))); cost != hiddenCost(n) {
				t.Fatalf("%d rows: %d", n, cost)
			}
		}
	}
}

func TestTwentyFourRows(t *testing.T) {
	const n = 24
	product, sum, one := even(2, n, 0, 0), even(2, n, 0, 0), even(2, n, 0, greatest)
	columns := list(n, func(k int) int { return 5 * k % n }) // 5 and 24 have no common divisor
	for a := range n {
		for b := range n {
			product.Cost[a][b] = (a + 1) * (b + 1)
			sum.Cost[a][b] = 1000*a + b
		}
		one.Cost[a][columns[a]] = 0
	}
	for _, c := range []struct {
		what string
		i    api.Instance
		cost int
	}{
		{"equal costs", even(2, n, 0, 5), 5 * n},
		{"nothing costs anything", even(2, n, 0, 0), 0},
		{"the greatest numbers", even(2, n, 0, greatest), n * greatest},
		{"products: the greatest with the least", product, n * (n + 1) * (n + 2) / 6},
		{"sums: all cost the same", sum, 1001 * n * (n - 1) / 2},
		{"one column for each row", one, 0},
	} {
		if cost := holdRows(t, c.i); cost != c.cost {
			t.Errorf("%s: %d, not %d", c.what, cost, c.cost)
		}
	}
	if x, _ := hold(t, one); !slices.Equal(x, columns) {
		t.Error(x)
	}
}
