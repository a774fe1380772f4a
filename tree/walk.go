package tree

import (
	"slices"

	"kurgan/dive"
	"kurgan/kernel"
)

// walk goes through a complete search, prefix by prefix, in the order of its word.
type walk struct {
	kernel *kernel.Kernel
	left   [][]int // the Kids of Branches, and the empty prefix, as long as they have no record; the next one is the last
}

func begun(k *kernel.Kernel) *walk { return &walk{k, [][]int{{}}} }

// over: has each prefix that must have a record got it?
func (w *walk) over() bool { return len(w.left) == 0 }

// next is the prefix that must have the next record. It is the caller's from then on.
func (w *walk) next() []int { return w.left[len(w.left)-1] }

// step gives the next prefix its record; false: none of this kind can be its.
func (w *walk) step(kind int) bool {
	p := w.next()
	complete := len(p) == w.kernel.Depth()
	switch {
	case kind == dive.Pruned:
	case kind == dive.Leaf && complete:
	case kind == dive.Branch && !complete:
	default:
		return false
	}
	w.left = w.left[:len(w.left)-1]
	if kind == dive.Branch {
		kids, _ := w.kernel.Kids(p) // no error: it is a prefix
		slices.Sort(kids)
		for _, kid := range slices.Backward(kids) {
			w.left = append(w.left, append(slices.Clone(p), kid))
		}
	}
	return true
}
