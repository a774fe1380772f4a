package count

// phase is what an act does next.
type phase int

const (
	look phase = iota // read how many are active
	swap              // one less, if nobody else has left since
	over
)

// Act is what a worker is about.
type Act struct {
	count  *Count
	next   phase
	active int // so many were, when it looked
	left   bool
}

// Step goes on, by one step at most; is it over?
func (a *Act) Step() bool {
	if a.Over() {
		return true
	}
	switch a.next {
	case look:
		a.look()
	case swap:
		a.swap()
	}
	return a.Over()
}

func (a *Act) look() {
	a.active = a.count.read(a.count.working())
	a.next = swap
	if a.active <= 1 { // the last one stays
		a.next = over
	}
}

func (a *Act) swap() {
	c := a.count
	a.left, _ = c.mem.Cas(c.working(), a.active, a.active-1)
	a.next = look
	if a.left {
		a.next = over
	}
}

// Over: is it? Left: may the worker go home?
func (a *Act) Over() bool { return a == nil || a.count == nil || a.next == over }

func (a *Act) Left() bool { return a != nil && a.left }
