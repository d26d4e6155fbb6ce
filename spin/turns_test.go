package spin_test

import (
	"iter"
	"math/rand"
	"slices"
	"testing"

	"warren/api"
	"warren/cell"
	"warren/spin"
)

// teller is a job told as a plain program of the chapter's words, which rests ahead of each access till it is stepped on.
type teller struct {
	words []int64 // shared by all tellers of one run
	last  *cell.Access
	mark  int64
	job   spin.Job
	state spin.State
	rest  func()
	next  func() (struct{}, bool)
	stop  func()
}

type leave struct{}

// start brings a teller to its first rest.
func (x *teller) start() {
	x.next, x.stop = iter.Pull(func(yield func(struct{}) bool) {
		x.rest = func() {
			if !yield(struct{}{}) {
				panic(leave{})
			}
		}
		defer func() {
			if p := recover(); p != nil && p != any(leave{}) {
				panic(p)
			}
		}()
		switch x.job.Kind {
		case spin.Holder:
			x.holder()
		case spin.Writer:
			x.writer()
		case spin.Reader:
			x.reader()
		}
		x.state.Done = true
	})
	x.next()
}

func (x *teller) load(at int) int64 {
	x.rest()
	v := x.words[at]
	*x.last = load(at, v)
	return v
}

func (x *teller) store(at int, v int64) {
	x.rest()
	*x.last = store(at, x.words[at], v)
	x.words[at] = v
}

func (x *teller) swap(at int, old, v int64) bool {
	x.rest()
	if x.words[at] != old {
		*x.last = missed(at, x.words[at])
		return false
	}
	*x.last = swap(at, old, v)
	x.words[at] = v
	return true
}

func (x *teller) toil() {
	for range x.job.Work {
		x.load(x.job.At)
	}
}

func (x *teller) holder() {
	for !x.swap(x.job.At, 0, x.mark) {
		x.state.Tries++
	}
	x.toil()
	x.store(x.job.At, 0)
}

func (x *teller) even() int64 {
	for {
		if c := x.load(x.job.At); c&1 == 0 {
			return c
		}
		x.state.Tries++
	}
}

func (x *teller) writer() {
	count := x.even()
	for !x.swap(x.job.At, count, count+1) {
		x.state.Tries++
		count = x.even()
	}
	x.store(x.job.At+1, x.job.A)
	x.toil()
	x.store(x.job.At+2, x.job.B)
	x.store(x.job.At, count+2)
}

func (x *teller) reader() {
	for {
		count := x.even()
		a := x.load(x.job.At + 1)
		x.toil()
		b := x.load(x.job.At + 2)
		if x.load(x.job.At) == count {
			x.state.A, x.state.B = a, b
			return
		}
		x.state.Tries++
	}
}

// told makes the tellers of a run.
func told(cells int, jobs []spin.Job) ([]*teller, *cell.Access) {
	words, last := make([]int64, cells), &cell.Access{}
	var all []*teller
	for i, j := range jobs {
		x := &teller{words: words, last: last, mark: int64(i) + 1, job: j}
		x.start()
		all = append(all, x)
	}
	return all, last
}

// both is a run and its tellers, gone on with step by step.
type both struct {
	m     *cell.Memory
	r     *spin.Run
	tells []*teller
	last  *cell.Access
}

func newBoth(t *testing.T, cells int, jobs []spin.Job) *both {
	t.Helper()
	m := memory(t, cells)
	b := &both{m: m, r: made(t, m, jobs...)}
	b.tells, b.last = told(cells, jobs)
	return b
}

func (b *both) close() {
	for _, x := range b.tells {
		x.stop()
	}
}

// step steps a job, and holds what came of it against what its teller tells; false: the job is Done.
func (b *both) step(t *testing.T, job int) bool {
	t.Helper()
	x, was := b.tells[job], b.m.Steps()
	if x.state.Done {
		if s, why := b.r.Step(job); s != (spin.State{}) || why != api.ErrPast || b.m.Steps() != was {
			t.Fatalf("job %d is Done: Step: %+v, %v", job, s, why)
		}
		return false
	}
	x.next()
	s, why := b.r.Step(job)
	if why != api.OK || s != x.state || b.m.Steps() != was+1 || b.m.Last() != *b.last {
		t.Fatalf("Step(%d): %+v, %v, %d accesses, the last %+v; told: %+v, %+v", job, s, why, b.m.Steps()-was, b.m.Last(), x.state, *b.last)
	}
	return true
}

func (b *both) same(t *testing.T) {
	t.Helper()
	var states []spin.State
	for _, x := range b.tells {
		states = append(states, x.state)
	}
	if all := b.r.All(); !slices.Equal(all, states) {
		t.Fatalf("All: %+v; told: %+v", all, states)
	}
	if words := b.m.Words(); !slices.Equal(words, b.tells[0].words) {
		t.Fatalf("words: %v; told: %v", words, b.tells[0].words)
	}
}

// rows calls see with every row of n job numbers below jobs.
func rows(n, jobs int, see func(row []int)) {
	row := make([]int, n)
	for {
		see(row)
		i := n - 1
		for ; i >= 0 && row[i] == jobs-1; i-- {
			row[i] = 0
		}
		if i < 0 {
			return
		}
		row[i]++
	}
}

// holds tells whether a Holder has its lock: it is in behind a true Swap, and out behind its Store.
type holds []bool

func (h holds) see(t *testing.T, jobs []spin.Job, job int, a cell.Access) {
	t.Helper()
	if jobs[job].Kind != spin.Holder || !a.Done {
		return
	}
	switch a.Kind {
	case cell.Swap:
		h[job] = true
	case cell.Store:
		h[job] = false
	}
	for i := range h {
		if h[i] && i != job && h[job] && jobs[i].At == jobs[job].At {
			t.Fatalf("jobs %d and %d hold the lock %d", i, job, jobs[job].At)
		}
	}
}

// pairs are those that stood together in the cells at At: the one at the beginning, and what each Writer writes.
func pairs(jobs []spin.Job, at int) [][2]int64 {
	out := [][2]int64{{0, 0}}
	for _, j := range jobs {
		if j.Kind == spin.Writer && j.At == at {
			out = append(out, [2]int64{j.A, j.B})
		}
	}
	return out
}

func readTogether(t *testing.T, jobs []spin.Job, states []spin.State) {
	t.Helper()
	for i, s := range states {
		reader := jobs[i].Kind == spin.Reader && s.Done
		if !reader && (s.A != 0 || s.B != 0) || reader && !slices.Contains(pairs(jobs, jobs[i].At), [2]int64{s.A, s.B}) {
			t.Fatalf("job %d of %+v: %+v", i, jobs, s)
		}
	}
}

// P2.1, P2.3: whatever the order of so many steps is, all is as it is told.
func TestEveryOrderOfAFewJobs(t *testing.T) {
	const w, r, h = spin.Writer, spin.Reader, spin.Holder
	for _, c := range []struct {
		steps int
		jobs  []spin.Job
	}{
		{13, []spin.Job{{Kind: w, A: 7, B: 8}, {Kind: r}}},
		{13, []spin.Job{{Kind: w, A: 7, B: 8, Work: 1}, {Kind: r, Work: 2}}},
		{13, []spin.Job{{Kind: w, A: 1, B: 2}, {Kind: w, A: 3, B: 4}}},
		{12, []spin.Job{{Kind: h}, {Kind: h, Work: 2}}},
		{9, []spin.Job{{Kind: h}, {Kind: h, Work: 1}, {Kind: h}}},
		{9, []spin.Job{{Kind: w, A: 1, B: 2}, {Kind: r}, {Kind: w, A: 3, B: 4}}},
	} {
		rows(c.steps, len(c.jobs), func(row []int) {
			b := newBoth(t, 3, c.jobs)
			defer b.close()
			in := make(holds, len(c.jobs))
			for _, job := range row {
				if b.step(t, job) {
					in.see(t, c.jobs, job, b.m.Last())
				}
			}
			b.same(t)
			readTogether(t, c.jobs, b.r.All())
		})
	}
}

// someJobs are as many as may be, on two locks and two pairs that are apart.
func someJobs(rnd *rand.Rand) []spin.Job {
	var jobs []spin.Job
	for i := range 1 + rnd.Intn(api.MaxReaders) {
		j := spin.Job{Kind: 1 + rnd.Intn(3), Work: rnd.Intn(4), A: int64(i + 1), B: int64(-i - 1)}
		if j.Kind == spin.Holder {
			j.At = rnd.Intn(2)
		} else {
			j.At = 2 + 3*rnd.Intn(2)
		}
		jobs = append(jobs, j)
	}
	return jobs
}

// P2.1 to P2.3: jobs that disturb one another, as picks come, come all to their end, and have read what stood together.
func TestJobsThatArePickedEnd(t *testing.T) {
	rnd := rand.New(rand.NewSource(2))
	for range 400 {
		jobs := someJobs(rnd)
		b := newBoth(t, 8, jobs)
		in := make(holds, len(jobs))
		for n := 0; ; n++ {
			job, ok := b.r.Pick(rnd.Intn(64) - 32)
			if !ok {
				break
			}
			if n == 50000 || !b.step(t, job) {
				t.Fatalf("%+v: step %d, job %d", jobs, n, job)
			}
			in.see(t, jobs, job, b.m.Last())
			readTogether(t, jobs, b.r.All())
		}
		b.same(t)
		b.close()
	}
}

// P2.1: whatever the cells hold and whoever else stores into them, cells that lie across one another too, each access is as it is told.
func TestJobsThatOthersDisturb(t *testing.T) {
	rnd := rand.New(rand.NewSource(3))
	for range 400 {
		cells := 3 + rnd.Intn(4)
		var jobs []spin.Job
		for range 1 + rnd.Intn(api.MaxReaders) {
			jobs = append(jobs, spin.Job{Kind: 1 + rnd.Intn(3), At: rnd.Intn(cells - 2), Work: rnd.Intn(3), A: rnd.Int63n(9) - 4, B: rnd.Int63n(9) - 4})
		}
		b := newBoth(t, cells, jobs)
		for range 300 {
			if rnd.Intn(8) == 0 {
				at, v := rnd.Intn(cells), rnd.Int63n(7)-3
				b.m.Store(at, v)
				b.tells[0].words[at] = v
			}
			b.step(t, rnd.Intn(len(jobs)))
		}
		b.same(t)
		b.close()
	}
}

// P2.3: who is stepped alone is Done behind as many steps as its kind has accesses.
func TestWhoIsSteppedAloneIsDone(t *testing.T) {
	for _, work := range []int{0, 1, 2, 50, 100} {
		for kind, want := range map[int]int{spin.Holder: 2 + work, spin.Writer: 5 + work, spin.Reader: 4 + work} {
			m := memory(t, 5)
			r := made(t, m, spin.Job{Kind: spin.Reader, At: 2}, spin.Job{Kind: kind, At: 2, Work: work})
			if got := finish(r, 1); got != want || m.Steps() != want || !r.All()[1].Done {
				t.Errorf("kind %d, work %d: %d steps, %+v; want %d", kind, work, got, r.All(), want)
			}
		}
	}
}

// P2.3: alone, but behind another's half try: one more try is enough, once nobody is writing.
func TestWhoWasDisturbedIsDoneSoon(t *testing.T) {
	for begun := range 5 {
		m := memory(t, 3)
		r := made(t, m, spin.Job{Kind: spin.Reader}, spin.Job{Kind: spin.Writer, A: 3, B: 4})
		for range begun {
			r.Step(0)
		}
		finish(r, 1)
		if finish(r, 0) > 8 || !r.All()[0].Done {
			t.Errorf("begun by %d steps: %+v", begun, r.All())
		}
	}
}

// Example 3: Writers of one pair are done in some order, and what stands there is one's pair.
func TestWritersAreDoneInSomeOrder(t *testing.T) {
	rnd := rand.New(rand.NewSource(4))
	for range 200 {
		var jobs []spin.Job
		for i := range api.MaxReaders {
			jobs = append(jobs, spin.Job{Kind: spin.Writer, A: int64(i + 1), B: int64(10 * (i + 1)), Work: rnd.Intn(3)})
		}
		m := memory(t, 3)
		r := made(t, m, jobs...)
		for {
			job, ok := r.Pick(rnd.Int())
			if !ok {
				break
			}
			r.Step(job)
		}
		if w := m.Words(); w[0] != 2*api.MaxReaders || w[2] != 10*w[1] || w[1] < 1 {
			t.Fatalf("%v", w)
		}
	}
}

// R4: the same steps answer the same.
func TestTheSameStepsAnswerTheSame(t *testing.T) {
	jobs := someJobs(rand.New(rand.NewSource(5)))
	one, two := memory(t, 8), memory(t, 8)
	a, b := made(t, one, jobs...), made(t, two, jobs...)
	for n := range 500 {
		x, okX := a.Pick(n * 7)
		y, okY := b.Pick(n * 7)
		s, _ := a.Step(x)
		u, _ := b.Step(y)
		if x != y || okX != okY || s != u || one.Last() != two.Last() {
			t.Fatalf("step %d: %d, %d; %+v, %+v", n, x, y, s, u)
		}
	}
}
