package work

import "kurgan/heap"

// seek looks for a slot, first in the worker's own heap.
func (w *Worker) seek() state { return w.fetch(w.own().Pop(), w.scan) }

// fetch goes through a Pop or a Steal. The worker processes what it removed; if that is nothing, it goes on otherwise.
func (w *Worker) fetch(a *heap.Act, otherwise then) state {
	w.queue = a
	return through(a, func() state {
		w.queue = nil
		w.slot = a.Slot()
		if w.slot == none {
			return otherwise()
		}
		return w.process
	})
}

// scan considers all places.
func (w *Worker) scan() state {
	return w.steal(w.shared.Tape.Draw(len(w.places)), len(w.places))
}

// steal considers so many places, from one on; behind the last place comes the first one.
func (w *Worker) steal(from, many int) state {
	if many == 0 {
		return w.rest
	}
	p := w.places[from%len(w.places)]
	return w.fetch(p.heap.Steal(p.number), func() state { return w.steal(from+1, many-1) })
}

// rest ends the worker's search if nothing is open. Otherwise others will go on, unless it is the last one.
func (w *Worker) rest() state {
	if w.shared.Count.Open() < 1 {
		return nil
	}
	a := w.shared.Count.Leave()
	return through(a, func() state {
		if a.Left() {
			return nil
		}
		return w.seek()
	})
}
