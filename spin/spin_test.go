package spin_test

import (
	"math"
	"slices"
	"testing"

	"warren/api"
	"warren/cell"
	"warren/spin"
)

func memory(t *testing.T, n int) *cell.Memory {
	t.Helper()
	m, why := cell.New(n)
	if why != api.OK {
		t.Fatalf("cell.New(%d): %v", n, why)
	}
	return m
}

func made(t *testing.T, m *cell.Memory, jobs ...spin.Job) *spin.Run {
	t.Helper()
	r, why := spin.New(m, jobs)
	if r == nil || why != api.OK {
		t.Fatalf("New(%v): %v, %v", jobs, r, why)
	}
	return r
}

func holders(n int) []spin.Job {
	return slices.Repeat([]spin.Job{{Kind: spin.Holder}}, n)
}

func TestKindsAreNumberedFromOne(t *testing.T) {
	if spin.Holder != 1 || spin.Writer != 2 || spin.Reader != 3 {
		t.Error(spin.Holder, spin.Writer, spin.Reader)
	}
}

// P2.1: how many jobs there may be.
func TestNewTakesUpToMaxReadersJobs(t *testing.T) {
	for n := 0; n <= api.MaxReaders; n++ {
		if got := made(t, memory(t, 1), holders(n)...).All(); !slices.Equal(got, make([]spin.State, n)) {
			t.Errorf("%d jobs: %v", n, got)
		}
	}
	made(t, memory(t, 1), []spin.Job{}...)
	for _, n := range []int{api.MaxReaders + 1, api.MaxReaders + 2, 100} {
		if r, why := spin.New(memory(t, 1), holders(n)); r != nil || why != api.ErrMany {
			t.Errorf("%d jobs: %v, %v", n, r, why)
		}
	}
}

// P2.1: what a job must be, each edge and one past it.
func TestNewAsksWhatEachJobIs(t *testing.T) {
	for _, kind := range []int{spin.Holder, spin.Writer, spin.Reader} {
		for _, work := range []int{0, 1, 99, 100} {
			made(t, memory(t, 3), spin.Job{Kind: kind, Work: work})
		}
		for _, work := range []int{-1, 101, 1 << 32, math.MinInt, math.MaxInt} {
			refuses(t, 3, spin.Job{Kind: kind, Work: work})
		}
	}
	for _, kind := range []int{0, -1, 4, 1<<32 + 1, math.MinInt, math.MaxInt} {
		refuses(t, 3, spin.Job{Kind: kind})
	}
}

func refuses(t *testing.T, cells int, j spin.Job) {
	t.Helper()
	m := memory(t, cells)
	if r, why := spin.New(m, []spin.Job{j}); r != nil || why != api.ErrArg || m.Steps() != 0 {
		t.Errorf("%d cells: New(%+v): %v, %v", cells, j, r, why)
	}
}

// P2.1: the last cell that a job may have, and one past it.
func TestNewAsksForTheCells(t *testing.T) {
	for _, c := range []struct{ kind, needs int }{{spin.Holder, 1}, {spin.Writer, 3}, {spin.Reader, 3}} {
		for _, cells := range []int{1, 2, 3, 4, api.MaxCells} {
			for at := 0; at <= cells-c.needs; at++ {
				made(t, memory(t, cells), spin.Job{Kind: c.kind, At: at})
			}
			for _, at := range []int{-1, -2, cells - c.needs + 1, cells, cells + 1, 1 << 32, math.MaxInt, math.MaxInt - 1, math.MaxInt - 2, math.MinInt} {
				refuses(t, cells, spin.Job{Kind: c.kind, At: at})
			}
		}
	}
}

// P2.1, R8: of several refusals ErrArg is told, wherever the job stands; R1: a memory that is nil.
func TestNewTellsErrArgAheadOfErrMany(t *testing.T) {
	for _, jobs := range [][]spin.Job{nil, {}, holders(1), holders(api.MaxReaders + 1)} {
		if r, why := spin.New(nil, jobs); r != nil || why != api.ErrArg {
			t.Errorf("no memory, %d jobs: %v, %v", len(jobs), r, why)
		}
	}
	for _, bad := range []spin.Job{{}, {Kind: spin.Holder, Work: 101}, {Kind: spin.Reader, At: 1}} {
		for _, n := range []int{2, api.MaxReaders, api.MaxReaders + 1, 20} {
			for i := range n {
				jobs := holders(n)
				jobs[i] = bad
				if r, why := spin.New(memory(t, 3), jobs); r != nil || why != api.ErrArg {
					t.Errorf("job %d of %d is %+v: %v, %v", i, n, bad, r, why)
				}
			}
		}
	}
}

// A shot is what a step must be: who is stepped, the access, the state behind it.
type shot struct {
	job    int
	access cell.Access
	state  spin.State
}

func load(at int, v int64) cell.Access {
	return cell.Access{Kind: cell.Load, At: at, Old: v, New: v, Done: true}
}

func store(at int, old, v int64) cell.Access {
	return cell.Access{Kind: cell.Store, At: at, Old: old, New: v, Done: true}
}

func swap(at int, old, v int64) cell.Access {
	return cell.Access{Kind: cell.Swap, At: at, Old: old, New: v, Done: true}
}

func missed(at int, v int64) cell.Access {
	return cell.Access{Kind: cell.Swap, At: at, Old: v, New: v}
}

func tries(n int) spin.State { return spin.State{Tries: n} }

func done(n int) spin.State { return spin.State{Done: true, Tries: n} }

func play(t *testing.T, m *cell.Memory, r *spin.Run, shots []shot) {
	t.Helper()
	for i, s := range shots {
		was := m.Steps()
		got, why := r.Step(s.job)
		if why != api.OK || got != s.state || m.Steps() != was+1 || m.Last() != s.access {
			t.Fatalf("step %d: Step(%d): %+v, %v; %d accesses, the last %+v; want %+v", i, s.job, got, why, m.Steps()-was, m.Last(), s)
		}
		if all := r.All(); all[s.job] != s.state {
			t.Fatalf("step %d: All: %+v; want %+v", i, all, s.state)
		}
	}
}

// P2.1: a Holder, alone and against another one.
func TestHolder(t *testing.T) {
	m := memory(t, 2)
	r := made(t, m, spin.Job{Kind: spin.Holder, At: 1, A: 5, B: 6}, spin.Job{Kind: spin.Holder, At: 1, Work: 2})
	play(t, m, r, []shot{
		{1, swap(1, 0, 2), tries(0)},
		{0, missed(1, 2), tries(1)},
		{1, load(1, 2), tries(0)},
		{0, missed(1, 2), tries(2)},
		{1, load(1, 2), tries(0)},
		{1, store(1, 2, 0), done(0)},
		{0, swap(1, 0, 1), tries(2)},
		{0, store(1, 1, 0), done(2)},
	})
}

// P2.1: the number that a Holder puts there is its own, whatever stands ahead of it.
func TestHoldersPutTheirNumbers(t *testing.T) {
	m := memory(t, api.MaxReaders)
	jobs := holders(api.MaxReaders)
	for i := range jobs {
		jobs[i].At = i
	}
	r := made(t, m, jobs...)
	for i := range jobs {
		play(t, m, r, []shot{{i, swap(i, 0, int64(i)+1), tries(0)}})
	}
	for i := range jobs {
		play(t, m, r, []shot{{i, store(i, int64(i)+1, 0), done(0)}})
	}
}

// P2.1: a Holder frees its lock whatever stands there by then.
func TestHolderFreesWhatOthersChanged(t *testing.T) {
	m := memory(t, 1)
	r := made(t, m, spin.Job{Kind: spin.Holder, Work: 1})
	m.Store(0, -4)
	play(t, m, r, []shot{{0, missed(0, -4), tries(1)}})
	m.Store(0, 0)
	play(t, m, r, []shot{{0, swap(0, 0, 1), tries(1)}})
	m.Store(0, 9)
	play(t, m, r, []shot{{0, load(0, 9), tries(1)}, {0, store(0, 9, 0), done(1)}})
}

// P2.1: a Writer's accesses, without work and with it.
func TestWriter(t *testing.T) {
	m := memory(t, 4)
	m.Store(1, 4)
	r := made(t, m, spin.Job{Kind: spin.Writer, At: 1, A: 7, B: 8}, spin.Job{Kind: spin.Writer, At: 1, Work: 2, A: -1, B: -2})
	play(t, m, r, []shot{
		{0, load(1, 4), tries(0)},
		{0, swap(1, 4, 5), tries(0)},
		{0, store(2, 0, 7), tries(0)},
		{0, store(3, 0, 8), tries(0)},
		{0, store(1, 5, 6), done(0)},
		{1, load(1, 6), tries(0)},
		{1, swap(1, 6, 7), tries(0)},
		{1, store(2, 7, -1), tries(0)},
		{1, load(1, 7), tries(0)},
		{1, load(1, 7), tries(0)},
		{1, store(3, 8, -2), tries(0)},
		{1, store(1, 7, 8), done(0)},
	})
}

// P2.1: a Writer waits for an even count, and begins again when its Swap comes too late.
func TestWritersAgainstEachOther(t *testing.T) {
	m := memory(t, 3)
	r := made(t, m, spin.Job{Kind: spin.Writer, A: 1, B: 2}, spin.Job{Kind: spin.Writer, A: 3, B: 4})
	play(t, m, r, []shot{
		{0, load(0, 0), tries(0)},
		{1, load(0, 0), tries(0)},
		{1, swap(0, 0, 1), tries(0)},
		{0, missed(0, 1), tries(1)},
		{0, load(0, 1), tries(2)},
		{0, load(0, 1), tries(3)},
		{1, store(1, 0, 3), tries(0)},
		{1, store(2, 0, 4), tries(0)},
		{1, store(0, 1, 2), done(0)},
		{0, load(0, 2), tries(3)},
		{0, swap(0, 2, 3), tries(3)},
		{0, store(1, 3, 1), tries(3)},
		{0, store(2, 4, 2), tries(3)},
		{0, store(0, 3, 4), done(3)},
	})
}

// P2.1: a Writer's last Store hangs on its first count, not on what stands there.
func TestWriterEndsAtItsFirstCountPlusTwo(t *testing.T) {
	m := memory(t, 3)
	r := made(t, m, spin.Job{Kind: spin.Writer, Work: 1})
	play(t, m, r, []shot{{0, load(0, 0), tries(0)}, {0, swap(0, 0, 1), tries(0)}})
	m.Store(0, 50)
	play(t, m, r, []shot{
		{0, store(1, 0, 0), tries(0)},
		{0, load(0, 50), tries(0)},
		{0, store(2, 0, 0), tries(0)},
		{0, store(0, 50, 2), done(0)},
	})
}

// P2.1: a Reader's accesses; what it read is told when it is Done.
func TestReader(t *testing.T) {
	m := memory(t, 4)
	m.Store(1, 6)
	m.Store(2, 11)
	m.Store(3, 12)
	r := made(t, m, spin.Job{Kind: spin.Reader, At: 1, A: 1, B: 2}, spin.Job{Kind: spin.Reader, At: 1, Work: 2})
	play(t, m, r, []shot{
		{0, load(1, 6), tries(0)},
		{0, load(2, 11), tries(0)},
		{0, load(3, 12), tries(0)},
		{0, load(1, 6), spin.State{Done: true, A: 11, B: 12}},
		{1, load(1, 6), tries(0)},
		{1, load(2, 11), tries(0)},
		{1, load(1, 6), tries(0)},
		{1, load(1, 6), tries(0)},
		{1, load(3, 12), tries(0)},
		{1, load(1, 6), spin.State{Done: true, A: 11, B: 12}},
	})
}

// P2.1: a Reader that a Writer came across begins again, its work too.
func TestReaderBeginsAgain(t *testing.T) {
	m := memory(t, 3)
	r := made(t, m, spin.Job{Kind: spin.Reader, Work: 1}, spin.Job{Kind: spin.Writer, A: 7, B: 8})
	play(t, m, r, []shot{
		{0, load(0, 0), tries(0)},
		{0, load(1, 0), tries(0)},
		{1, load(0, 0), tries(0)},
		{1, swap(0, 0, 1), tries(0)},
		{1, store(1, 0, 7), tries(0)},
		{0, load(0, 1), tries(0)},
		{1, store(2, 0, 8), tries(0)},
		{0, load(2, 8), tries(0)},
		{0, load(0, 1), tries(1)},
		{0, load(0, 1), tries(2)},
		{1, store(0, 1, 2), done(0)},
		{0, load(0, 2), tries(2)},
		{0, load(1, 7), tries(2)},
		{0, load(0, 2), tries(2)},
		{0, load(2, 8), tries(2)},
		{0, load(0, 2), spin.State{Done: true, A: 7, B: 8, Tries: 2}},
	})
}

// Example 1: counts that stay odd, those below 0 too, let nobody in; even ones do, at both ends of the numbers.
func TestOddCountsLetNobodyIn(t *testing.T) {
	for _, count := range []int64{1, 3, -1, -3, math.MaxInt64, math.MinInt64 + 1} {
		m := memory(t, 3)
		m.Store(0, count)
		r := made(t, m, spin.Job{Kind: spin.Reader}, spin.Job{Kind: spin.Writer})
		for n := 1; n <= 300; n++ {
			play(t, m, r, []shot{{0, load(0, count), tries(n)}, {1, load(0, count), tries(n)}})
		}
	}
	for _, count := range []int64{0, 2, -2, math.MaxInt64 - 1, math.MinInt64} {
		m := memory(t, 3)
		m.Store(0, count)
		r := made(t, m, spin.Job{Kind: spin.Writer}, spin.Job{Kind: spin.Reader})
		play(t, m, r, []shot{
			{1, load(0, count), tries(0)},
			{0, load(0, count), tries(0)},
			{0, swap(0, count, count+1), tries(0)},
			{0, store(1, 0, 0), tries(0)},
			{0, store(2, 0, 0), tries(0)},
			{0, store(0, count+1, count+2), done(0)},
		})
	}
}

// P2.1: a job that is Done, and no job; R3: neither is an access, and nothing is changed by them.
func TestStepRefuses(t *testing.T) {
	m := memory(t, 1)
	r := made(t, m, spin.Job{Kind: spin.Holder}, spin.Job{Kind: spin.Holder})
	play(t, m, r, []shot{{0, swap(0, 0, 1), tries(0)}, {1, missed(0, 1), tries(1)}, {0, store(0, 1, 0), done(0)}})
	steps, last, all := m.Steps(), m.Last(), r.All()
	for _, c := range []struct {
		job  int
		want api.Errno
	}{{0, api.ErrPast}, {-1, api.ErrArg}, {2, api.ErrArg}, {api.MaxReaders, api.ErrArg}, {1 << 32, api.ErrArg}, {math.MaxInt, api.ErrArg}, {math.MinInt, api.ErrArg}} {
		if s, why := r.Step(c.job); s != (spin.State{}) || why != c.want {
			t.Errorf("Step(%d): %+v, %v", c.job, s, why)
		}
	}
	if m.Steps() != steps || m.Last() != last || !slices.Equal(r.All(), all) {
		t.Errorf("changed: %d, %+v, %+v", m.Steps(), m.Last(), r.All())
	}
	if _, why := made(t, m).Step(0); why != api.ErrArg {
		t.Errorf("no jobs: Step(0): %v", why)
	}
}

// R3: a Reader that is Done tells nothing beside ErrPast.
func TestStepOfADoneReaderIsZero(t *testing.T) {
	m := memory(t, 3)
	m.Store(1, 5)
	r := made(t, m, spin.Job{Kind: spin.Reader})
	for range 4 {
		r.Step(0)
	}
	if s, why := r.Step(0); s != (spin.State{}) || why != api.ErrPast {
		t.Errorf("%+v, %v", s, why)
	}
	if s := r.All()[0]; s != (spin.State{Done: true, A: 5}) {
		t.Errorf("%+v", s)
	}
}

// P2.2: which one Pick takes, of all that are open and of fewer.
func TestPick(t *testing.T) {
	m := memory(t, 3)
	r := made(t, m, spin.Job{Kind: spin.Holder}, spin.Job{Kind: spin.Holder, At: 1}, spin.Job{Kind: spin.Holder, At: 2})
	picks(t, r, map[int]int{0: 0, 1: 1, 2: 2, 3: 0, 4: 1, 5: 2, -1: 0, -2: 1, -3: 2, -4: 0, math.MaxInt: math.MaxInt % 3, math.MinInt: math.MaxInt % 3})
	finish(r, 1)
	picks(t, r, map[int]int{0: 0, 1: 2, 2: 0, 7: 2, -1: 0, -2: 2, -3: 0, math.MaxInt: 2, math.MinInt: 2, math.MaxInt - 1: 0, math.MinInt + 1: 0})
	finish(r, 0)
	picks(t, r, map[int]int{0: 2, 1: 2, -1: 2, 99: 2, math.MaxInt: 2, math.MinInt: 2})
	finish(r, 2)
	for _, empty := range []*spin.Run{r, made(t, m)} {
		for _, n := range []int{0, 1, -1, 5, math.MaxInt, math.MinInt} {
			if got, ok := empty.Pick(n); got != 0 || ok {
				t.Errorf("without one: Pick(%d): %d, %v", n, got, ok)
			}
		}
	}
}

func picks(t *testing.T, r *spin.Run, want map[int]int) {
	t.Helper()
	for n, job := range want {
		if got, ok := r.Pick(n); got != job || !ok {
			t.Errorf("Pick(%d): %d, %v; want %d", n, got, ok, job)
		}
	}
}

// finish steps a job till a step of it is refused, and answers how many were not.
func finish(r *spin.Run, job int) int {
	for n := 0; ; n++ {
		if _, why := r.Step(job); why != api.OK || n > 1000 {
			return n
		}
	}
}

// P2.2: Pick and All make no access.
func TestPickAndAllMakeNoAccess(t *testing.T) {
	m := memory(t, 3)
	r := made(t, m, spin.Job{Kind: spin.Reader}, spin.Job{Kind: spin.Writer})
	r.Pick(3)
	r.All()
	if m.Steps() != 0 || m.Last() != (cell.Access{}) {
		t.Errorf("%d, %+v", m.Steps(), m.Last())
	}
}

// R2: All answers new memory each time, and what is done to it touches nothing.
func TestAllIsNewMemory(t *testing.T) {
	m := memory(t, 1)
	r := made(t, m, holders(2)...)
	r.Step(1)
	r.Step(0)
	want := []spin.State{tries(1), tries(0)}
	for range 3 {
		all := r.All()
		if !slices.Equal(all, want) {
			t.Fatalf("%+v", all)
		}
		all = all[:cap(all)]
		for i := range all {
			all[i] = spin.State{Done: true, A: 1, B: 1, Tries: 77}
		}
	}
	older := r.All()
	r.Step(0)
	if !slices.Equal(older, want) {
		t.Errorf("an elder answer has become %+v", older)
	}
	play(t, m, r, []shot{{1, store(0, 2, 0), done(0)}})
}

// R2: the jobs are neither changed, their spare room included, nor kept.
func TestJobsAreNeitherChangedNorKept(t *testing.T) {
	room := []spin.Job{{Kind: spin.Reader, Work: 1}, {Kind: spin.Writer, A: 7, B: 8}, {Kind: 99, At: -5}}
	want := slices.Clone(room)
	m := memory(t, 6)
	r := made(t, m, room[:2]...)
	finish(r, 1)
	if finish(r, 0); !slices.Equal(room, want) {
		t.Errorf("jobs have become %+v", room)
	}
	m = memory(t, 6)
	r = made(t, m, room[:2]...)
	r.Step(1)
	room[0] = spin.Job{Kind: spin.Holder, At: 5}
	room[1] = spin.Job{Kind: spin.Writer, At: 3, A: 9, B: 9, Work: 5}
	if n := finish(r, 1); n != 4 || !slices.Equal(m.Words(), []int64{2, 7, 8, 0, 0, 0}) {
		t.Errorf("%d steps: %v", n, m.Words())
	}
	if n := finish(r, 0); n != 5 || r.All()[0] != (spin.State{Done: true, A: 7, B: 8}) {
		t.Errorf("%d steps: %+v", n, r.All())
	}
}

// P2.1: runs of one memory go on in it together.
func TestRunsShareTheirMemory(t *testing.T) {
	m := memory(t, 1)
	one, two := made(t, m, holders(1)...), made(t, m, holders(1)...)
	play(t, m, one, []shot{{0, swap(0, 0, 1), tries(0)}})
	play(t, m, two, []shot{{0, missed(0, 1), tries(1)}})
	play(t, m, one, []shot{{0, store(0, 1, 0), done(0)}})
	play(t, m, two, []shot{{0, swap(0, 0, 1), tries(1)}, {0, store(0, 1, 0), done(1)}})
}
