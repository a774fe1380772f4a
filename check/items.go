package check

import (
	"cmp"
	"slices"

	"kurgan/api"
	"kurgan/arith"
)

// items is a Knapsack. No sum here is too great for an int, for 64 numbers of at most 31 bits.
type items struct {
	api.Instance
	order []int // the items, as a prefix tells of them: the best value for its weight first
}

func newItems(i api.Instance) items {
	order := upTo(0, i.N)
	slices.SortStableFunc(order, func(a, b int) int {
		if i.Weight[a] == 0 || i.Weight[b] == 0 {
			return cmp.Compare(i.Weight[a], i.Weight[b])
		}
		return arith.Cross(i.Value[b], i.Weight[a], i.Value[a], i.Weight[b])
	})
	return items{i, order}
}

func (k items) cost(x []int) (int, api.Errno) {
	if len(x) != k.N {
		return 0, api.ErrArg
	}
	weight, cost := 0, 0
	for item, taken := range x {
		switch taken {
		case 0:
			cost += k.Value[item]
		case 1:
			weight += k.Weight[item]
		default:
			return 0, api.ErrArg
		}
	}
	if weight > k.Cap {
		return 0, api.ErrFull
	}
	return cost, api.OK
}

func (k items) value(cost int) int {
	total := 0
	for _, worth := range k.Value {
		total += worth
	}
	return total - cost
}

func (k items) depth() int { return k.N }

func (k items) kids(p []int) []int {
	if k.Weight[k.order[len(p)]] > k.room(p) {
		return []int{0}
	}
	return []int{0, 1}
}

// room: what a prefix leaves of the capacity.
func (k items) room(p []int) int {
	room := k.Cap
	for at, taken := range p {
		room -= taken * k.Weight[k.order[at]]
	}
	return room
}

func (k items) bound(p []int) int {
	cost := 0
	for at, taken := range p {
		cost += (1 - taken) * k.Value[k.order[at]]
	}
	room, fit := k.room(p), true
	for _, item := range k.order[len(p):] {
		weight, worth := k.Weight[item], k.Value[item]
		switch {
		case !fit: // behind the first that is too heavy all are left out
			cost += worth
		case weight <= room:
			room -= weight
		default:
			part, _ := arith.Part(worth, room, weight) // an int, since it is not above worth
			cost += worth - part
			fit = false
		}
	}
	return cost
}
