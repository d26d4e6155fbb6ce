package file_test

import (
	"fmt"
	"math"
	"math/rand"
	"testing"

	"warren/api"
	"warren/file"
)

// ask is one call of a row.
type ask struct {
	op         int // api.Open, api.Close or api.Seek
	proc, fd   int
	at         api.Place
	flags, pos int
}

// answer is what a call answers.
type answer struct {
	fd  int
	at  api.Place
	why api.Errno
}

func play(x *file.Table, c ask) (got answer) {
	switch c.op {
	case api.Open:
		got.fd, got.why = x.Open(c.proc, c.at, c.flags)
	case api.Close:
		got.at, got.why = x.Close(c.proc, c.fd)
	default:
		got.why = x.Seek(c.proc, c.fd, c.pos)
	}
	return got
}

// owner is a process with a descriptor of it.
type owner struct{ proc, fd int }

// told is a table by the chapter's words: what each process has, by its descriptors.
type told struct {
	files int
	has   map[owner]file.File
}

func (w told) count(is func(owner, file.File) bool) int {
	n := 0
	for o, f := range w.has {
		if is(o, f) {
			n++
		}
	}
	return n
}

func (w told) room(proc int) api.Errno {
	switch own := w.count(func(o owner, _ file.File) bool { return o.proc == proc }); {
	case proc < 0 || proc > api.MaxProcs-1:
		return api.ErrArg
	case own >= api.MaxFiles:
		return api.TooMany
	case len(w.has) >= w.files:
		return api.TableFull
	}
	return api.OK
}

func (w told) get(proc, fd int) (file.File, api.Errno) {
	f, there := w.has[owner{proc, fd}]
	switch {
	case proc < 0 || proc > api.MaxProcs-1:
		return file.File{}, api.ErrArg
	case !there:
		return file.File{}, api.BadFd
	}
	return f, api.OK
}

func (w told) open(c ask) answer {
	if why := w.room(c.proc); why != api.OK {
		return answer{why: why}
	}
	fd := 0
	for {
		if _, there := w.has[owner{c.proc, fd}]; !there {
			break
		}
		fd++
	}
	w.has[owner{c.proc, fd}] = file.File{At: c.at, Flags: c.flags}
	return answer{fd: fd}
}

func (w told) play(c ask) answer {
	if c.op == api.Open {
		return w.open(c)
	}
	f, why := w.get(c.proc, c.fd)
	switch {
	case why != api.OK:
		return answer{why: why}
	case c.op == api.Close:
		delete(w.has, owner{c.proc, c.fd})
		return answer{at: f.At}
	case c.pos < 0:
		return answer{why: api.Invalid}
	}
	f.Pos = c.pos
	w.has[owner{c.proc, c.fd}] = f
	return answer{}
}

// different tells what of all that can be asked is unlike.
func different(x *file.Table, w told, mounts []int) string {
	if got := x.Count(); got != len(w.has) {
		return fmt.Sprintf("Count: %d, want %d", got, len(w.has))
	}
	for _, m := range mounts {
		if got, want := x.In(m), w.count(func(_ owner, f file.File) bool { return f.At.Mount == m }); got != want {
			return fmt.Sprintf("In(%d): %d, want %d", m, got, want)
		}
	}
	for proc := -1; proc <= api.MaxProcs; proc++ {
		if got, want := x.Room(proc), w.room(proc); got != want {
			return fmt.Sprintf("Room(%d): %v, want %v", proc, got, want)
		}
		for fd := -1; fd <= api.MaxFiles; fd++ {
			got, why := x.Get(proc, fd)
			if want, because := w.get(proc, fd); got != want || why != because {
				return fmt.Sprintf("Get(%d, %d): %v %v, want %v %v", proc, fd, got, why, want, because)
			}
		}
	}
	return ""
}

// holdAgainst plays the row in a table and as it is told, and holds what can be asked against each other behind each call that looks says.
func holdAgainst(t *testing.T, files int, mounts []int, row []ask, looks func(i int) bool) map[api.Errno]int {
	t.Helper()
	x, w := table(t, files), told{files, map[owner]file.File{}}
	seen := map[api.Errno]int{}
	for i, c := range row {
		got, want := play(x, c), w.play(c)
		if got != want {
			t.Fatalf("files %d, %v: %v, want %v", files, row[:i+1], got, want)
		}
		seen[want.why]++
		if !looks(i) {
			continue
		}
		if wrong := different(x, w, mounts); wrong != "" {
			t.Fatalf("files %d, %v: %s", files, row[:i+1], wrong)
		}
	}
	return seen
}

// few answers calls of processes 0 and 1 and descriptors 0 and 1.
func few() []ask {
	var calls []ask
	for proc := range 2 {
		calls = append(calls, ask{op: api.Open, proc: proc, at: at(proc, 5), flags: 2 + proc})
		for fd := range 2 {
			calls = append(calls, ask{op: api.Close, proc: proc, fd: fd}, ask{op: api.Seek, proc: proc, fd: fd, pos: 3 - 4*fd})
		}
	}
	return calls
}

// P14.1: all rows of five calls of a table of two files, looked at behind the last one: each row's beginnings are rows that others have.
func TestAllShortRows(t *testing.T) {
	calls := few()
	rows := [][]ask{nil}
	for range 5 {
		var longer [][]ask
		for _, row := range rows {
			for _, c := range calls {
				longer = append(longer, append(row[:len(row):len(row)], c))
			}
		}
		rows = longer
	}
	for _, row := range rows {
		holdAgainst(t, 2, []int{0, 1}, row, func(i int) bool { return i == len(row)-1 })
	}
}

// pick answers a call that is mostly of one of the first procs processes and of a descriptor that may be.
func pick(r *rand.Rand, procs int, mounts []int) ask {
	c := ask{op: api.Open, proc: r.Intn(procs), fd: r.Intn(api.MaxFiles), flags: r.Intn(300) - 20, pos: r.Intn(1 << 20)}
	c.at = at(mounts[r.Intn(len(mounts))], r.Intn(9))
	if r.Intn(16) == 0 {
		c.proc = noProcs[r.Intn(len(noProcs))]
	}
	switch r.Intn(5) {
	case 0:
		c.op = api.Close
	case 1:
		c.op = api.Seek
	}
	if r.Intn(8) == 0 {
		c.fd = noFds[r.Intn(len(noFds))]
	}
	if r.Intn(4) == 0 {
		c.pos = []int{0, -1, math.MinInt, math.MaxInt}[r.Intn(4)]
	}
	return c
}

// P14.1: long rows, in which every refusal comes now and then.
func TestLongRows(t *testing.T) {
	r := rand.New(rand.NewSource(14))
	mounts := []int{-1, 0, 1, 2, math.MaxInt}
	always := func(int) bool { return true }
	seen := map[api.Errno]int{}
	for _, files := range []int{1, 2, api.MaxFiles, api.MaxFiles + 1, 20, mostFiles - 1, mostFiles} {
		for procs := 1; procs <= api.MaxProcs; procs++ {
			var row []ask
			for range 300 {
				row = append(row, pick(r, procs, mounts))
			}
			for why, n := range holdAgainst(t, files, mounts, row, always) {
				seen[why] += n
			}
		}
	}
	for _, why := range []api.Errno{api.OK, api.ErrArg, api.BadFd, api.Invalid, api.TooMany, api.TableFull} {
		if seen[why] < 100 {
			t.Errorf("%v came %d times", why, seen[why])
		}
	}
}
