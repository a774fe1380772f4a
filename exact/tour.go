package exact

import (
	"kurgan/api"
	"kurgan/set"
)

// path is a cheapest one from city 0 through all cities of a set to one of them.
type path struct {
	cost   int
	before int // the city before the last
}

// Tour: the best answer, and what it costs.
func Tour(i api.Instance) ([]int, int, api.Errno) {
	if e := refuse(i, api.Tour); e != api.OK {
		return nil, 0, e
	}
	paths := allPaths(i)
	visited := 1<<i.N - 1
	x := make([]int, i.N)
	city := shortest(i, paths, visited, 0).before
	for at := i.N - 1; at > 0; at-- {
		x[at] = city
		city = paths[visited][city].before
		visited -= 1 << x[at]
	}
	return priced(i, x)
}

// allPaths: by a set of cities, bit by bit, with city 0 in it, and by the last of them.
func allPaths(i api.Instance) [][]path {
	paths := make([][]path, 1<<i.N)
	paths[1] = make([]path, 1) // city 0 alone
	for visited := 3; visited < len(paths); visited += 2 {
		paths[visited] = make([]path, i.N)
		for last := range cities(visited).Without(0).All() {
			paths[visited][last] = shortest(i, paths, visited-1<<last, last)
		}
	}
	return paths
}

// shortest: the cheapest path through a set of cities and then to a city.
func shortest(i api.Instance, paths [][]path, visited, city int) path {
	ends := cities(visited)
	if visited > 1 { // a path that goes on from city 0 does not end there
		ends = ends.Without(0)
	}
	best := path{before: -1}
	for last := range ends.All() {
		cost := paths[visited][last].cost + i.Cost[last][city]
		if best.before < 0 || cost < best.cost {
			best = path{cost, last}
		}
	}
	return best
}

func cities(visited int) set.Set { return set.Set{uint64(visited)} }
