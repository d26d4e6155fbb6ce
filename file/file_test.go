package file_test

import (
	"fmt"
	"math"
	"testing"

	"warren/api"
	"warren/file"
)

const mostFiles = api.MaxProcs * api.MaxFiles

// noProcs are numbers that no process has; noFds are descriptors that none can have.
var (
	noProcs = []int{-1, -2, math.MinInt, api.MaxProcs, api.MaxProcs + 1, math.MaxInt}
	noFds   = []int{-1, -2, math.MinInt, api.MaxFiles, api.MaxFiles + 1, math.MaxInt}
)

func at(m, n int) api.Place { return api.Place{Mount: m, Node: n} }

func table(t *testing.T, files int) *file.Table {
	t.Helper()
	x, why := file.New(files)
	if x == nil || why != api.OK {
		t.Fatalf("New(%d): %v, %v", files, x, why)
	}
	return x
}

// look tells all that can be asked of the processes and descriptors that may be and of some that may not, and of mounts -2 to 20.
func look(x *file.Table) string {
	text := fmt.Sprint(x.Count())
	for m := -2; m <= 20; m++ {
		text += fmt.Sprint(" ", x.In(m))
	}
	for proc := -1; proc <= api.MaxProcs; proc++ {
		text += fmt.Sprint("; ", proc, int(x.Room(proc)))
		for fd := -1; fd <= api.MaxFiles+1; fd++ {
			f, why := x.Get(proc, fd)
			text += fmt.Sprint(" ", f, int(why))
		}
	}
	return text
}

// still does what is to turn nothing.
func still(t *testing.T, x *file.Table, what string, do func()) {
	t.Helper()
	was := look(x)
	do()
	if is := look(x); is != was {
		t.Errorf("%s turned\n%s into\n%s", what, was, is)
	}
}

func room(t *testing.T, x *file.Table, proc int, want api.Errno) {
	t.Helper()
	still(t, x, fmt.Sprintf("Room(%d)", proc), func() {
		if why := x.Room(proc); why != want {
			t.Errorf("Room(%d): %v, want %v", proc, why, want)
		}
	})
}

// opens asks for a file that is to have the descriptor.
func opens(t *testing.T, x *file.Table, proc int, p api.Place, flags, want int) {
	t.Helper()
	room(t, x, proc, api.OK)
	if fd, why := x.Open(proc, p, flags); fd != want || why != api.OK {
		t.Fatalf("Open(%d, %v, %d): %d, %v, want %d", proc, p, flags, fd, why, want)
	}
	gets(t, x, proc, want, file.File{At: p, Flags: flags})
}

// opensMany asks for n files, whose descriptors are to be first and on.
func opensMany(t *testing.T, x *file.Table, proc, first, n int) {
	t.Helper()
	for fd := first; fd < first+n; fd++ {
		opens(t, x, proc, at(proc, fd), 0, fd)
	}
}

// notOpened asks for a file that is refused, as Room says, and that all is as it was.
func notOpened(t *testing.T, x *file.Table, proc int, want api.Errno) {
	t.Helper()
	room(t, x, proc, want)
	still(t, x, fmt.Sprintf("Open(%d) that was refused", proc), func() {
		if fd, why := x.Open(proc, at(3, 4), 5); fd != 0 || why != want {
			t.Errorf("Open(%d): %d, %v, want 0, %v", proc, fd, why, want)
		}
	})
}

func closes(t *testing.T, x *file.Table, proc, fd int, want api.Place) {
	t.Helper()
	if p, why := x.Close(proc, fd); p != want || why != api.OK {
		t.Fatalf("Close(%d, %d): %v, %v, want %v", proc, fd, p, why, want)
	}
}

func gets(t *testing.T, x *file.Table, proc, fd int, want file.File) {
	t.Helper()
	if f, why := x.Get(proc, fd); f != want || why != api.OK {
		t.Errorf("Get(%d, %d): %v, %v, want %v", proc, fd, f, why, want)
	}
}

func seeks(t *testing.T, x *file.Table, proc, fd, pos int) {
	t.Helper()
	was, _ := x.Get(proc, fd)
	if why := x.Seek(proc, fd, pos); why != api.OK {
		t.Fatalf("Seek(%d, %d, %d): %v", proc, fd, pos, why)
	}
	gets(t, x, proc, fd, file.File{At: was.At, Flags: was.Flags, Pos: pos})
}

// notSought asks for what is refused, and that all is as it was.
func notSought(t *testing.T, x *file.Table, proc, fd, pos int, want api.Errno) {
	t.Helper()
	still(t, x, fmt.Sprintf("Seek(%d, %d, %d) that was refused", proc, fd, pos), func() {
		if why := x.Seek(proc, fd, pos); why != want {
			t.Errorf("Seek(%d, %d, %d): %v, want %v", proc, fd, pos, why, want)
		}
	})
}

// none asks for a descriptor that is not there, by all calls that ask for one, and that all is as it was.
func none(t *testing.T, x *file.Table, proc, fd int, want api.Errno) {
	t.Helper()
	still(t, x, fmt.Sprintf("descriptor %d of process %d that is not there", fd, proc), func() {
		if p, why := x.Close(proc, fd); p != (api.Place{}) || why != want {
			t.Errorf("Close(%d, %d): %v, %v, want zero, %v", proc, fd, p, why, want)
		}
		if f, why := x.Get(proc, fd); f != (file.File{}) || why != want {
			t.Errorf("Get(%d, %d): %v, %v, want zero, %v", proc, fd, f, why, want)
		}
	})
	for _, pos := range []int{0, 1, math.MaxInt, -1, math.MinInt} {
		notSought(t, x, proc, fd, pos, want)
	}
}

func counts(t *testing.T, x *file.Table, want int) {
	t.Helper()
	if n := x.Count(); n != want {
		t.Errorf("Count: %d, want %d", n, want)
	}
}

func in(t *testing.T, x *file.Table, mount, want int) {
	t.Helper()
	if n := x.In(mount); n != want {
		t.Errorf("In(%d): %d, want %d", mount, n, want)
	}
}

// fill opens all that may be open in a table of files, process by process.
func fill(t *testing.T, x *file.Table, files int) {
	t.Helper()
	for n := range files {
		opens(t, x, n/api.MaxFiles, at(n%3, n), n, n%api.MaxFiles)
	}
}

// P14.1: how many files may be.
func TestNew(t *testing.T) {
	for _, n := range []int{math.MinInt, -mostFiles, -1, 0, mostFiles + 1, math.MaxInt} {
		if x, why := file.New(n); x != nil || why != api.ErrArg {
			t.Errorf("New(%d): %v, %v, want nil, ErrArg", n, x, why)
		}
	}
	for n := 1; n <= mostFiles; n++ {
		x := table(t, n)
		counts(t, x, 0)
		for proc := range api.MaxProcs {
			room(t, x, proc, api.OK)
			none(t, x, proc, 0, api.BadFd)
		}
		fill(t, x, n)
		counts(t, x, n)
		for proc := range api.MaxProcs {
			switch {
			case proc < n/api.MaxFiles:
				notOpened(t, x, proc, api.TooMany)
			default:
				notOpened(t, x, proc, api.TableFull)
			}
		}
	}
}

// Tables have nothing in common.
func TestTablesAreApart(t *testing.T) {
	x, y := table(t, 1), table(t, 2)
	opens(t, x, 0, at(1, 2), 3, 0)
	none(t, y, 0, 0, api.BadFd)
	counts(t, y, 0)
	in(t, y, 1, 0)
	opens(t, y, 0, at(4, 5), 6, 0)
	seeks(t, y, 0, 0, 7)
	gets(t, x, 0, 0, file.File{At: at(1, 2), Flags: 3})
	notOpened(t, x, 1, api.TableFull)
	room(t, y, 1, api.OK)
}

// The chapter's runs.
func TestRuns(t *testing.T) {
	x := table(t, mostFiles)
	opens(t, x, 0, at(0, 1), 1, 0)
	opens(t, x, 0, at(0, 2), 1, 1)
	closes(t, x, 0, 0, at(0, 1))
	opens(t, x, 0, at(0, 3), 1, 0)
	x = table(t, 1)
	opens(t, x, 0, at(0, 1), 1, 0)
	notOpened(t, x, 1, api.TableFull)
}

// The chapter's examples.
func TestExamples(t *testing.T) {
	x := table(t, api.MaxFiles)
	opens(t, x, 0, at(1, 2), 3, 0)
	closes(t, x, 0, 0, at(1, 2))
	none(t, x, 0, 0, api.BadFd)
	opensMany(t, x, 0, 0, api.MaxFiles)
	notOpened(t, x, 0, api.TooMany)
	closes(t, x, 0, 5, at(0, 5))
	for _, flags := range []int{0, -1, api.ForRead | api.Append, 255, 256, math.MaxInt, math.MinInt} {
		opens(t, x, 0, at(0, 5), flags, 5)
		closes(t, x, 0, 5, at(0, 5))
	}
}

// P14.1: a process that is not there, whatever the table holds.
func TestNoProcess(t *testing.T) {
	empty, some, full := table(t, 2), table(t, mostFiles), table(t, mostFiles)
	opens(t, some, 0, at(1, 2), 3, 0)
	opens(t, some, api.MaxProcs-1, at(1, 2), 3, 0)
	fill(t, full, mostFiles)
	for _, x := range []*file.Table{empty, some, full} {
		for _, proc := range noProcs {
			notOpened(t, x, proc, api.ErrArg)
			for _, fd := range append([]int{0, 1, api.MaxFiles - 1}, noFds...) {
				none(t, x, proc, fd, api.ErrArg)
			}
		}
	}
}

// P14.1: the first and the last process that may be.
func TestFirstAndLastProcess(t *testing.T) {
	x := table(t, mostFiles)
	for _, proc := range []int{0, api.MaxProcs - 1} {
		opens(t, x, proc, at(proc, 5), 6, 0)
		seeks(t, x, proc, 0, 9)
		closes(t, x, proc, 0, at(proc, 5))
		none(t, x, proc, 0, api.BadFd)
	}
	counts(t, x, 0)
}

// P14.1: descriptors that the process has not.
func TestNoDescriptor(t *testing.T) {
	x := table(t, mostFiles)
	opensMany(t, x, 2, 0, api.MaxFiles)
	opensMany(t, x, 3, 0, 3)
	closes(t, x, 3, 1, at(3, 1))
	for _, fd := range append([]int{1, 3, api.MaxFiles - 1}, noFds...) {
		none(t, x, 3, fd, api.BadFd)
	}
	for _, fd := range noFds {
		none(t, x, 2, fd, api.BadFd)
		none(t, x, 4, fd, api.BadFd)
	}
	for fd := range api.MaxFiles {
		none(t, x, 4, fd, api.BadFd)
	}
	gets(t, x, 3, 0, file.File{At: at(3, 0)})
	gets(t, x, 3, 2, file.File{At: at(3, 2)})
}

// P14.1: the last descriptor that may be is like the others.
func TestLastDescriptor(t *testing.T) {
	x := table(t, mostFiles)
	opensMany(t, x, 1, 0, api.MaxFiles)
	last := api.MaxFiles - 1
	seeks(t, x, 1, last, 9)
	closes(t, x, 1, last, at(1, last))
	none(t, x, 1, last, api.BadFd)
	opens(t, x, 1, at(7, 7), 8, last)
	notOpened(t, x, 1, api.TooMany)
}

// P14.1: TooMany of a process is its own, and ends with a Close of it alone.
func TestTooMany(t *testing.T) {
	x := table(t, mostFiles)
	opensMany(t, x, 0, 0, api.MaxFiles-1)
	room(t, x, 0, api.OK)
	opensMany(t, x, 0, api.MaxFiles-1, 1)
	notOpened(t, x, 0, api.TooMany)
	opens(t, x, 1, at(1, 0), 0, 0)
	closes(t, x, 1, 0, at(1, 0))
	notOpened(t, x, 0, api.TooMany)
	closes(t, x, 0, 0, at(0, 0))
	opens(t, x, 0, at(2, 2), 2, 0)
	notOpened(t, x, 0, api.TooMany)
}

// P14.1: a table that is full is full for all, and has room again behind a Close of anybody.
func TestTableFull(t *testing.T) {
	x := table(t, 3)
	opensMany(t, x, 4, 0, 2)
	room(t, x, 5, api.OK)
	opensMany(t, x, 5, 0, 1)
	for proc := range api.MaxProcs {
		notOpened(t, x, proc, api.TableFull)
	}
	closes(t, x, 4, 0, at(4, 0))
	opens(t, x, 6, at(6, 0), 1, 0)
	for proc := range api.MaxProcs {
		notOpened(t, x, proc, api.TableFull)
	}
}

// P14.1: of both at once TooMany comes first.
func TestTooManyIsFirst(t *testing.T) {
	x := table(t, api.MaxFiles+1)
	opensMany(t, x, 3, 0, api.MaxFiles)
	notOpened(t, x, 3, api.TooMany)
	opensMany(t, x, 2, 0, 1)
	notOpened(t, x, 3, api.TooMany)
	notOpened(t, x, 2, api.TableFull)
	notOpened(t, x, 4, api.TableFull)
	closes(t, x, 3, 6, at(3, 6))
	room(t, x, 2, api.OK)
	opensMany(t, x, 2, 1, 1)
	notOpened(t, x, 3, api.TableFull)
}

// P14.1: the lowest descriptor that the process has not is given, whatever the others have and in whichever order they were closed.
func TestLowest(t *testing.T) {
	x := table(t, mostFiles)
	opensMany(t, x, 0, 0, 6)
	opensMany(t, x, 1, 0, 2)
	opens(t, x, 2, at(2, 0), 0, 0)
	for _, fd := range []int{4, 1, 3} {
		closes(t, x, 0, fd, at(0, fd))
	}
	opens(t, x, 1, at(1, 2), 0, 2)
	for _, fd := range []int{1, 3, 4, 6, 7} {
		opens(t, x, 0, at(0, fd), 0, fd)
	}
	notOpened(t, x, 0, api.TooMany)
	opens(t, x, 2, at(2, 1), 0, 1)
	closes(t, x, 1, 0, at(1, 0))
	opens(t, x, 2, at(2, 2), 0, 2)
	opens(t, x, 1, at(1, 0), 0, 0)
}

// P14.1: every set of descriptors that a process may have.
func TestLowestOfEverySet(t *testing.T) {
	for set := range 1 << api.MaxFiles {
		x := table(t, mostFiles)
		opensMany(t, x, 5, 0, 1)
		opensMany(t, x, 4, 0, api.MaxFiles)
		lowest, left := api.MaxFiles, api.MaxFiles
		for fd := api.MaxFiles - 1; fd >= 0; fd-- {
			if set>>fd&1 == 0 {
				closes(t, x, 4, fd, at(4, fd))
				lowest = fd
				left--
			}
		}
		counts(t, x, 1+left)
		if lowest == api.MaxFiles {
			notOpened(t, x, 4, api.TooMany)
			continue
		}
		opens(t, x, 4, at(8, 9), 10, lowest)
	}
}

// P14.1: place, Flags and Pos are each descriptor's own, and are kept as they are, also of one file that is open twice.
func TestEachIsItsOwn(t *testing.T) {
	x := table(t, mostFiles)
	one := at(1, 9)
	opens(t, x, 0, one, 1, 0)
	opens(t, x, 0, one, 2, 1)
	opens(t, x, 7, one, -3, 0)
	opens(t, x, 7, at(math.MinInt, math.MaxInt), math.MinInt, 1)
	seeks(t, x, 0, 1, 5)
	seeks(t, x, 7, 0, 6)
	gets(t, x, 0, 0, file.File{At: one, Flags: 1})
	gets(t, x, 0, 1, file.File{At: one, Flags: 2, Pos: 5})
	gets(t, x, 7, 0, file.File{At: one, Flags: -3, Pos: 6})
	gets(t, x, 7, 1, file.File{At: at(math.MinInt, math.MaxInt), Flags: math.MinInt})
	closes(t, x, 0, 0, one)
	gets(t, x, 0, 1, file.File{At: one, Flags: 2, Pos: 5})
	gets(t, x, 7, 0, file.File{At: one, Flags: -3, Pos: 6})
	gets(t, x, 7, 1, file.File{At: at(math.MinInt, math.MaxInt), Flags: math.MinInt})
}

// P14.1: a descriptor that is given again has nothing of the one that was closed.
func TestOpenedAgain(t *testing.T) {
	x := table(t, 1)
	opens(t, x, 0, at(1, 2), 3, 0)
	seeks(t, x, 0, 0, 4)
	closes(t, x, 0, 0, at(1, 2))
	opens(t, x, 0, api.Place{}, 0, 0)
	in(t, x, 1, 0)
	closes(t, x, 0, 0, api.Place{})
	opens(t, x, 1, at(5, 6), 7, 0)
	none(t, x, 0, 0, api.BadFd)
}

// P14.1: a Pos may be all that is not below 0.
func TestSeek(t *testing.T) {
	x := table(t, 2)
	opens(t, x, 0, at(1, 2), 3, 0)
	opens(t, x, 0, at(1, 4), 5, 1)
	for _, pos := range []int{1, 0, api.MaxSize, api.MaxSize + 1, 1 << 31, math.MaxInt} {
		seeks(t, x, 0, 0, pos)
		for _, below := range []int{-1, -2, math.MinInt} {
			notSought(t, x, 0, 0, below, api.Invalid)
		}
		gets(t, x, 0, 1, file.File{At: at(1, 4), Flags: 5})
	}
}

// P14.1: which refusal of a Seek below 0 comes first.
func TestSeekBelow(t *testing.T) {
	x := table(t, 2)
	opens(t, x, 0, at(1, 2), 3, 0)
	notSought(t, x, 0, 0, -1, api.Invalid)
	notSought(t, x, 0, 1, -1, api.BadFd)
	notSought(t, x, 0, -1, -1, api.BadFd)
	notSought(t, x, 1, 0, -1, api.BadFd)
	notSought(t, x, -1, 0, -1, api.ErrArg)
	notSought(t, x, api.MaxProcs, 9, -1, api.ErrArg)
}

// P14.1: Count counts all, In those at places of the mount.
func TestCounts(t *testing.T) {
	x := table(t, mostFiles)
	far := []int{-1, math.MinInt, math.MaxInt}
	for _, m := range append([]int{0, 1, 2}, far...) {
		in(t, x, m, 0)
	}
	opens(t, x, 0, at(0, 1), 1, 0)
	opens(t, x, 0, at(2, 1), 1, 1)
	opens(t, x, 1, at(2, 1), 1, 0)
	opens(t, x, 6, at(2, 0), 1, 0)
	for n, m := range far {
		opens(t, x, 5, at(m, 2), 1, n)
		in(t, x, m, 1)
	}
	counts(t, x, 7)
	in(t, x, 0, 1)
	in(t, x, 1, 0)
	in(t, x, 2, 3)
	closes(t, x, 0, 1, at(2, 1))
	counts(t, x, 6)
	in(t, x, 2, 2)
	closes(t, x, 0, 0, at(0, 1))
	counts(t, x, 5)
	in(t, x, 0, 0)
	seeks(t, x, 6, 0, 5)
	counts(t, x, 5)
	in(t, x, 2, 2)
}

// P14.1: a full table can be emptied and filled again, from either end.
func TestFullAndEmpty(t *testing.T) {
	x := table(t, mostFiles)
	for turn := range 3 {
		fill(t, x, mostFiles)
		for n := range mostFiles {
			k := n
			if turn == 1 {
				k = mostFiles - 1 - n
			}
			closes(t, x, k/api.MaxFiles, k%api.MaxFiles, at(k%3, k))
			counts(t, x, mostFiles-1-n)
		}
		for m := range 3 {
			in(t, x, m, 0)
		}
	}
}

// R2: what Get answers is not the table's.
func TestGetIsACopy(t *testing.T) {
	x := table(t, 1)
	opens(t, x, 0, at(1, 2), 3, 0)
	f, _ := x.Get(0, 0)
	f.At, f.Flags, f.Pos = at(4, 5), 6, 7
	gets(t, x, 0, 0, file.File{At: at(1, 2), Flags: 3})
}
