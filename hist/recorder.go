package hist

import "kurgan/api"

// Recorder writes down what is done.
type Recorder struct {
	time int // of the next call
	ops  []recorded
}

type recorded struct {
	Op
	ended bool
}

// Begin: something begins; End: it ends; Ops: all that has ended.
func (r *Recorder) Begin(kind, item int) int {
	if r == nil {
		return -1
	}
	r.ops = append(r.ops, recorded{Op: Op{Kind: kind, Item: item, From: r.tick()}})
	return len(r.ops) - 1
}

func (r *Recorder) tick() int {
	now := r.time
	r.time++
	return now
}

// End counts time whatever it answers, since the chapter counts the calls.
func (r *Recorder) End(n, item int) api.Errno {
	if r == nil {
		return api.ErrArg
	}
	now := r.tick()
	if n < 0 || n >= len(r.ops) || r.ops[n].ended {
		return api.ErrMiss
	}
	op := &r.ops[n]
	op.Item, op.To, op.ended = item, now, true
	return api.OK
}

func (r *Recorder) Ops() []Op {
	if r == nil {
		return nil
	}
	var l []Op
	for _, op := range r.ops {
		if op.ended {
			l = append(l, op.Op)
		}
	}
	return l
}
