package spin

import "warren/cell"

// place says which access of its job a machine makes next.
type place int

const (
	begin  place = iota // a Holder's Swap, the others' first Load of the count
	claim               // a Writer's Swap of the count
	first               // the pair's first half
	work                // the Loads that stand for work
	second              // the pair's second half
	end                 // the last access, unless it sends a Reader back
)

// machine is a job and where it goes on. What was read stands apart from the state because it is told only of a Reader whose reading held.
type machine struct {
	job   Job
	mark  int64 // what a Holder puts into its lock
	state State
	next  place
	left  int   // Loads of the work that are still to come
	count int64 // what the count was when this try began
	a, b  int64
}

// step makes one access.
func (x *machine) step(m *cell.Memory) {
	switch x.job.Kind {
	case Holder:
		x.hold(m)
	case Writer:
		x.write(m)
	case Reader:
		x.read(m)
	}
}

func (x *machine) hold(m *cell.Memory) {
goOn:
	for {
		switch x.next {
		case begin:
			if swapped(m, x.job.At, 0, x.mark) {
				x.enter(work)
			} else {
				x.again()
			}
		case work:
			if x.left == 0 {
				x.enter(end)
				continue goOn
			}
			x.toil(m)
		case end:
			m.Store(x.job.At, 0)
			x.state.Done = true
		}
		return
	}
}

func (x *machine) write(m *cell.Memory) {
goOn:
	for {
		switch x.next {
		case begin:
			x.loadCount(m, claim)
		case claim:
			if swapped(m, x.job.At, x.count, x.count+1) {
				x.enter(first)
			} else {
				x.again()
			}
		case first:
			m.Store(x.job.At+1, x.job.A)
			x.enter(work)
		case work:
			if x.left == 0 {
				x.enter(second)
				continue goOn
			}
			x.toil(m)
		case second:
			m.Store(x.job.At+2, x.job.B)
			x.enter(end)
		case end:
			m.Store(x.job.At, x.count+2)
			x.state.Done = true
		}
		return
	}
}

func (x *machine) read(m *cell.Memory) {
goOn:
	for {
		switch x.next {
		case begin:
			x.loadCount(m, first)
		case first:
			x.a = loaded(m, x.job.At+1)
			x.enter(work)
		case work:
			if x.left == 0 {
				x.enter(second)
				continue goOn
			}
			x.toil(m)
		case second:
			x.b = loaded(m, x.job.At+2)
			x.enter(end)
		case end:
			if loaded(m, x.job.At) == x.count {
				x.state.Done, x.state.A, x.state.B = true, x.a, x.b
			} else {
				x.again()
			}
		}
		return
	}
}

// enter lets the machine go on at a place; all of the work is ahead of who comes to it, in a second try too.
func (x *machine) enter(next place) {
	x.next = next
	if next == work {
		x.left = x.job.Work
	}
}

// again lets the machine go on at its beginning.
func (x *machine) again() {
	x.state.Tries++
	x.enter(begin)
}

// loadCount begins a try: an odd count says that somebody is writing.
func (x *machine) loadCount(m *cell.Memory, next place) {
	x.count = loaded(m, x.job.At)
	if x.count%2 != 0 {
		x.again()
	} else {
		x.enter(next)
	}
}

func (x *machine) toil(m *cell.Memory) {
	x.left--
	m.Load(x.job.At)
}

// loaded and swapped drop the refusal: New took no job whose cells are not there.
func loaded(m *cell.Memory, at int) int64 {
	v, _ := m.Load(at)
	return v
}

func swapped(m *cell.Memory, at int, old, next int64) bool {
	ok, _ := m.Swap(at, old, next)
	return ok
}
