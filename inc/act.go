package inc

// phase is what an act does next.
type phase int

const (
	look phase = iota // read the least cost
	swap              // put its own, if the cell wasn't changed since it was read
	over
)

// Act is what a worker is about.
type Act struct {
	inc    *Inc
	worker int
	x      []int
	cost   int
	next   phase
	read   int // the cell's number
	taken  bool
}

// Step goes on, by one step at most; is it over?
func (a *Act) Step() bool {
	if a.Over() {
		return true
	}
	switch a.next {
	case look:
		a.look()
	case swap:
		a.swap()
	}
	return a.Over()
}

func (a *Act) look() {
	a.read = a.inc.read()
	a.next = swap
	if a.cost >= costOf(a.read) {
		a.next = over
	}
}

func (a *Act) swap() {
	i := a.inc
	a.taken, _ = i.mem.Cas(i.at, a.read, numberOf(a.cost, a.worker))
	a.next = look
	if a.taken {
		i.kept[a.worker] = a.x
		a.next = over
	}
}

// Over: is it? Taken: is it, or was it, the best one?
func (a *Act) Over() bool { return a == nil || a.inc == nil || a.next == over }

func (a *Act) Taken() bool { return a != nil && a.taken }
