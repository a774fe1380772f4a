package check

import (
	"math"
	"slices"

	"kurgan/api"
)

// rows is the Cost of an Assignment. No sum here is too great for an int, for some 50 numbers of at most 31 bits; neither is one of cities.
type rows [][]int

func (r rows) cost(x []int) (int, api.Errno) {
	if !isOrder(x, len(r)) {
		return 0, api.ErrArg
	}
	return r.sum(x), api.OK
}

// sum: of the first rows, each with its column.
func (r rows) sum(columns []int) int {
	sum := 0
	for row, column := range columns {
		sum += r[row][column]
	}
	return sum
}

func (r rows) value(cost int) int { return cost }

func (r rows) depth() int { return len(r) }

func (r rows) kids(p []int) []int { return without(upTo(0, len(r)), p) }

func (r rows) bound(p []int) int {
	return r.sum(p) + assigned(upTo(len(p), len(r)), r.kids(p), func(row, column int) (int, bool) { return r[row][column], true })
}

// cities is a Tour: its Cost, and whether it is symmetric.
type cities struct {
	costs  [][]int
	mirror bool
}

func (c cities) cost(x []int) (int, api.Errno) {
	if !isOrder(x, len(c.costs)) || x[0] != 0 {
		return 0, api.ErrArg
	}
	way, last := c.way(x[1:])
	return way + c.costs[last][0], api.OK
}

// way: what the path from city 0 along some cities costs, and where it ends.
func (c cities) way(p []int) (cost, last int) {
	for _, city := range p {
		cost += c.costs[last][city]
		last = city
	}
	return cost, last
}

func (c cities) value(cost int) int { return cost }

func (c cities) depth() int { return len(c.costs) - 1 }

func (c cities) kids(p []int) []int { return without(upTo(1, len(c.costs)), p) }

func (c cities) bound(p []int) int {
	way, last := c.way(p)
	rest := c.kids(p)
	if len(rest) == 0 {
		return way + c.costs[last][0]
	}
	least := assigned(append([]int{last}, rest...), append([]int{0}, rest...), func(from, to int) (int, bool) {
		return c.costs[from][to], from != to && (from != last || to != 0) // other cities are left: the way home isn't the next one
	})
	if c.mirror {
		least = max(least, c.halved(last, rest))
	}
	return way + least
}

// halved: half of the two cheapest ways at each city that is left, and of the cheapest one of those at both ends, where ways to the last city and to city 0 are two even if these are the same.
func (c cities) halved(last int, rest []int) int {
	sum, away, home := 0, math.MaxInt, math.MaxInt
	for _, city := range rest {
		costs := c.costs[city]
		first, second := min(costs[last], costs[0]), max(costs[last], costs[0])
		for _, other := range rest {
			if other != city {
				second = min(second, max(first, costs[other]))
				first = min(first, costs[other])
			}
		}
		sum += first + second
		away = min(away, c.costs[last][city])
		home = min(home, costs[0])
	}
	return (sum + away + home + 1) / 2
}

// assigned: what it costs at least to give each row a column of its own: the least entry of each row, and of each column the least that is left when those are subtracted. Each row and each column has an entry; false: there is none at this place.
func assigned(rows, columns []int, entry func(row, column int) (int, bool)) int {
	sum := 0
	left := slices.Repeat([]int{math.MaxInt}, len(columns))
	for _, row := range rows {
		least := math.MaxInt
		for _, column := range columns {
			if cost, ok := entry(row, column); ok {
				least = min(least, cost)
			}
		}
		sum += least
		for k, column := range columns {
			if cost, ok := entry(row, column); ok {
				left[k] = min(left[k], cost-least)
			}
		}
	}
	for _, least := range left {
		sum += least
	}
	return sum
}

// isOrder: are these the numbers from 0 to n - 1, each once?
func isOrder(x []int, n int) bool {
	return len(x) == n && len(without(upTo(0, n), x)) == 0
}

// without: the numbers of a list that another one doesn't have.
func without(l, other []int) []int {
	return slices.DeleteFunc(l, func(n int) bool { return slices.Contains(other, n) })
}

// upTo: the numbers from one to below another one.
func upTo(from, end int) []int {
	var l []int
	for n := from; n < end; n++ {
		l = append(l, n)
	}
	return l
}
