package exact

import (
	"kurgan/api"
	"kurgan/set"
)

// load is some items that have room together.
type load struct {
	weight, value int
	items         set.Set
}

// Knapsack: the best answer, and what it costs.
func Knapsack(i api.Instance) ([]int, int, api.Errno) {
	if e := refuse(i, api.Knapsack); e != api.OK {
		return nil, 0, e
	}
	loads := []load{{}} // of growing weight and value: a load that is no lighter than one that is worth as much is of no use
	for item := range i.N {
		loads = merge(loads, added(loads, i, item))
	}
	x := make([]int, i.N)
	for item := range loads[len(loads)-1].items.All() {
		x[item] = 1
	}
	return priced(i, x)
}

// added: the loads with an item more, as far as there is room.
func added(loads []load, i api.Instance, item int) []load {
	var l []load
	for _, o := range loads {
		weight := o.weight + i.Weight[item]
		if weight > i.Cap {
			break // all that follow are heavier
		}
		l = append(l, load{weight, o.value + i.Value[item], o.items.With(item)})
	}
	return l
}

// merge: both lists by growing weight, without what is worth no more than one that is no heavier.
func merge(a, b []load) []load {
	var l []load
	for len(a) > 0 || len(b) > 0 {
		var next load
		if len(b) == 0 || len(a) > 0 && ahead(a[0], b[0]) {
			next, a = a[0], a[1:]
		} else {
			next, b = b[0], b[1:]
		}
		if len(l) == 0 || next.value > l[len(l)-1].value {
			l = append(l, next)
		}
	}
	return l
}

func ahead(a, b load) bool {
	return a.weight < b.weight || a.weight == b.weight && a.value > b.value
}
