package lin_test

import (
	"fmt"
	"math"
	"slices"
	"testing"

	"warren/api"
	"warren/hist"
	"warren/lin"
)

var size = api.Config{Nodes: 20, Blocks: 20, Files: 10}

// people answers the creds of three processes.
func people() []api.Cred { return []api.Cred{{}, {Uid: 5, Gid: 5}, {Uid: 6, Gid: 5}} }

func mkdir(path string) api.Call  { return api.Call{Op: api.Mkdir, Path: path, Mode: 0o777} }
func rmdir(path string) api.Call  { return api.Call{Op: api.Rmdir, Path: path} }
func info(path string) api.Call   { return api.Call{Op: api.Info, Path: path} }
func list(path string) api.Call   { return api.Call{Op: api.List, Path: path} }
func unlink(path string) api.Call { return api.Call{Op: api.Unlink, Path: path} }
func read(fd, n int) api.Call     { return api.Call{Op: api.Read, Fd: fd, N: n} }

func open(path string, flags int) api.Call {
	return api.Call{Op: api.Open, Path: path, Flags: flags, Mode: 0o666}
}

func write(fd int, data string) api.Call {
	return api.Call{Op: api.Write, Fd: fd, Data: []byte(data)}
}

// did answers a call of thread 0 that Returned with no more than a refusal, or OK.
func did(from, to int, c api.Call, why api.Errno) hist.Op {
	return came(from, to, c, api.Result{Why: why})
}

// came answers a call of thread 0 that Returned with this.
func came(from, to int, c api.Call, r api.Result) hist.Op {
	return hist.Op{Call: c, Result: r, From: from, To: to}
}

// waits answers a call of thread 0 that never Returned.
func waits(from int, c api.Call) hist.Op { return hist.Op{Call: c, From: from, To: -1} }

// of answers the call as one of that thread.
func of(thread int, o hist.Op) hist.Op {
	o.Thread = thread
	return o
}

// shows answers the calls in words.
func shows(l []hist.Op) string {
	s := ""
	for k, o := range l {
		s += fmt.Sprintf("\n%d: thread %d, %d to %d: %v: %v", k, o.Thread, o.From, o.To, o.Call, o.Result)
	}
	return s
}

// tells lets Order answer that order of the calls, Check that there is one, and Fits that it is one.
func tells(t *testing.T, l []hist.Op, want ...int) {
	t.Helper()
	order, has, why := lin.Order(size, people(), l)
	if !slices.Equal(order, want) || !has || why != api.OK {
		t.Errorf("Order: %v, %v, %v, want %v, of%s", order, has, why, want, shows(l))
	}
	if has, why := lin.Check(size, people(), l); !has || why != api.OK {
		t.Errorf("Check: %v, %v, of%s", has, why, shows(l))
	}
	fits(t, true, l, want...)
}

// none lets Order and Check answer that there is no order of the calls that fits.
func none(t *testing.T, l []hist.Op) {
	t.Helper()
	if order, has, why := lin.Order(size, people(), l); len(order) != 0 || has || why != api.OK {
		t.Errorf("Order: %v, %v, %v, want none, of%s", order, has, why, shows(l))
	}
	if has, why := lin.Check(size, people(), l); has || why != api.OK {
		t.Errorf("Check: %v, %v, of%s", has, why, shows(l))
	}
}

// fits lets Fits answer this of the order.
func fits(t *testing.T, want bool, l []hist.Op, order ...int) {
	t.Helper()
	if lin.Fits(size, people(), l, order) != want {
		t.Errorf("Fits of %v: %v, of%s", order, !want, shows(l))
	}
}

// refuses lets Order and Check refuse the calls, with nothing beside it, and no order fit.
func refuses(t *testing.T, want api.Errno, c api.Config, who []api.Cred, l []hist.Op) {
	t.Helper()
	if order, has, why := lin.Order(c, who, l); len(order) != 0 || has || why != want {
		t.Errorf("Order of %d calls, %v, %v: %v, %v, %v, want %v", len(l), c, who, order, has, why, want)
	}
	if has, why := lin.Check(c, who, l); has || why != want {
		t.Errorf("Check of %d calls, %v, %v: %v, %v, want %v", len(l), c, who, has, why, want)
	}
}

// The chapter's runs.
func TestRuns(t *testing.T) {
	tells(t, []hist.Op{of(0, did(0, 2, mkdir("/a"), api.OK)), did(1, 3, mkdir("/a"), api.Exists)}, 0, 1)
	tells(t, []hist.Op{of(0, did(0, 2, mkdir("/a"), api.Exists)), did(1, 3, mkdir("/a"), api.OK)}, 1, 0)
	none(t, []hist.Op{did(0, 1, mkdir("/a"), api.Exists), did(2, 3, mkdir("/a"), api.OK)})
}

// The chapter's first example: no calls, said in each way.
func TestNoCalls(t *testing.T) {
	for _, l := range [][]hist.Op{nil, {}, {did(0, 1, mkdir("/a"), api.Exists)}} {
		l = l[:0]
		tells(t, l)
		for _, order := range [][]int{nil, {}, {0}} {
			fits(t, len(order) == 0, l, order...)
		}
		fits(t, true, l, []int{7}[:0]...)
	}
}

// The chapter's second example: a pending call may have been done, must have been, or must not.
func TestPending(t *testing.T) {
	done := waits(0, mkdir("/a"))
	tells(t, []hist.Op{done})
	fits(t, true, []hist.Op{done}, 0)

	must := []hist.Op{done, did(1, 2, mkdir("/a/b"), api.OK)}
	tells(t, must, 0, 1)
	for _, order := range [][]int{{}, {0}, {1}, {1, 0}} {
		fits(t, false, must, order...)
	}

	mustNot := []hist.Op{done, did(1, 2, mkdir("/a/b"), api.NoEnt)}
	tells(t, mustNot, 1)
	fits(t, true, mustNot, 1, 0)
	for _, order := range [][]int{{}, {0}, {0, 1}} {
		fits(t, false, mustNot, order...)
	}

	either := []hist.Op{done, did(1, 2, mkdir("/b"), api.OK)}
	tells(t, either, 0, 1)
	fits(t, true, either, 1)
	fits(t, true, either, 1, 0)
}

// P19.1: a pending call that was seen once can't be undone, and one that was not seen may yet come.
func TestPendingBetweenTwo(t *testing.T) {
	there, gone := api.Result{Stat: api.Stat{Node: 2, Kind: api.Dir, Mode: 0o777, Links: 2}}, api.Result{Why: api.NoEnt}
	a := info("/a")
	tells(t, []hist.Op{waits(0, mkdir("/a")), came(1, 2, a, gone), came(3, 4, a, there)}, 1, 0, 2)
	none(t, []hist.Op{waits(0, mkdir("/a")), came(1, 2, a, there), came(3, 4, a, gone)})
	tells(t, []hist.Op{waits(0, mkdir("/a")), came(1, 2, a, there), came(3, 4, a, gone), waits(0, rmdir("/a"))}, 0, 1, 3, 2)
	// It was not Called yet when the first one Returned.
	tells(t, []hist.Op{waits(3, mkdir("/a")), came(1, 2, a, gone), came(4, 5, a, there)}, 1, 0, 2)
	none(t, []hist.Op{waits(3, mkdir("/a")), came(1, 2, a, there)})
}

// eight answers so many calls at once, all of which Returned.
func eight(calls int) []hist.Op {
	var l []hist.Op
	for k := range calls {
		l = append(l, did(k, 100, mkdir(fmt.Sprint("/", k)), api.OK))
	}
	return l
}

// P19.1: 8 calls and more; what is pending counts, too.
func TestMany(t *testing.T) {
	for n := range 9 {
		order, has, why := lin.Order(size, people(), eight(n))
		if len(order) != n || !slices.IsSorted(order) || !has || why != api.OK {
			t.Errorf("Order of %d calls: %v, %v, %v", n, order, has, why)
		}
	}
	for _, n := range []int{9, 10, 64, 1000} {
		l := eight(n)
		refuses(t, api.ErrMany, size, people(), l)
		for k := range l {
			l[k].To = -1
		}
		refuses(t, api.ErrMany, size, people(), l)
	}
	refuses(t, api.ErrMany, size, people(), make([]hist.Op, 9))
	tells(t, make([]hist.Op, 9)[:0])
}

// P19.1: Fits has no such limit.
func TestFitsOfMany(t *testing.T) {
	l := eight(12)
	order := []int{0, 1, 2, 3, 4, 5, 6, 7, 8, 9, 10, 11}
	fits(t, true, l, order...)
	fits(t, false, l, order[:11]...)
	slices.Reverse(order)
	fits(t, true, l, order...)
	l[0].Result.Why = api.Exists
	fits(t, false, l, order...)
}

// badSizes are configurations that model.New refuses.
func badSizes() []api.Config {
	return []api.Config{
		{}, {Nodes: 0, Blocks: 20, Files: 10}, {Nodes: 65, Blocks: 20, Files: 10}, {Nodes: 20, Blocks: -1, Files: 10},
		{Nodes: 20, Blocks: 257, Files: 10}, {Nodes: 20, Blocks: 20, Files: 0}, {Nodes: -1, Blocks: math.MinInt, Files: math.MaxInt},
	}
}

// badPeople are creds that model.New refuses.
func badPeople() [][]api.Cred {
	return [][]api.Cred{nil, {}, make([]api.Cred, 9), {{Uid: -1}}, {{}, {Gid: -1}}}
}

// P19.1: ErrMany comes ahead of ErrArg; what is refused has no order that fits.
func TestNoModel(t *testing.T) {
	lists := [][]hist.Op{nil, eight(1), {did(0, 1, mkdir("/a"), api.ErrArg)}, eight(8)}
	try := func(c api.Config, who []api.Cred) {
		for _, l := range lists {
			refuses(t, api.ErrArg, c, who, l)
			for _, order := range [][]int{nil, {}, {0}, {0, 1, 2, 3, 4, 5, 6, 7}} {
				if lin.Fits(c, who, l, order) {
					t.Errorf("Fits of %v, %v, %v: true", c, who, order)
				}
			}
		}
		refuses(t, api.ErrMany, c, who, eight(9))
	}
	for _, c := range badSizes() {
		try(c, people())
	}
	for _, who := range badPeople() {
		try(size, who)
	}
	try(api.Config{}, nil)
}

// P19.1: the sizes and creds are those of the Model that is told the calls.
func TestModelsSizeAndPeople(t *testing.T) {
	small := api.Config{Nodes: 2, Blocks: 1, Files: 1}
	l := []hist.Op{did(0, 1, mkdir("/a"), api.OK), did(2, 3, mkdir("/b"), api.NoSpace)}
	if has, why := lin.Check(small, people(), l); !has || why != api.OK {
		t.Errorf("Check of two Mkdirs where one has room: %v, %v", has, why)
	}
	none(t, l)
	l = []hist.Op{of(1, did(0, 1, mkdir("/a"), api.NoAccess)), of(2, did(0, 1, mkdir("/a"), api.NoAccess))}
	tells(t, l, 0, 1)
	if has, why := lin.Check(size, make([]api.Cred, 3), l); has || why != api.OK {
		t.Errorf("Check of those who may not, all of whom may: %v, %v", has, why)
	}
}

// P19.1: a Thread that is no process, Returned and pending.
func TestThreadThatIsNoProcess(t *testing.T) {
	a := mkdir("/a")
	for _, thread := range []int{-1, 3, 8, math.MaxInt, math.MinInt} {
		l := []hist.Op{of(thread, did(0, 1, a, api.ErrArg))}
		tells(t, l, 0)
		fits(t, false, l)
		none(t, []hist.Op{of(thread, did(0, 1, a, api.OK))})
		none(t, []hist.Op{of(thread, did(0, 1, a, api.BadFd))})
		none(t, []hist.Op{of(thread, came(0, 1, a, api.Result{Why: api.ErrArg, N: 1}))})

		l = []hist.Op{of(thread, waits(0, a))}
		tells(t, l)
		fits(t, true, l, 0)
		// What it was called with was not done, in whatever order it comes.
		l = append(l, of(2, did(1, 2, mkdir("/a/b"), api.NoEnt)))
		tells(t, l, 0, 1)
		fits(t, true, l, 1)
		fits(t, true, l, 1, 0)
		none(t, []hist.Op{l[0], did(1, 2, mkdir("/a/b"), api.OK)})
	}
}

// P19.1: a call that is none is answered ErrArg, too.
func TestCallThatIsNone(t *testing.T) {
	for _, op := range []int{0, -1, 21, math.MaxInt} {
		tells(t, []hist.Op{did(0, 1, api.Call{Op: op}, api.ErrArg)}, 0)
		none(t, []hist.Op{did(0, 1, api.Call{Op: op}, api.OK)})
		tells(t, []hist.Op{waits(0, api.Call{Op: op})})
	}
}

// P19.1: the Thread is the process: each has its own descriptors and rights.
func TestThreadIsTheProcess(t *testing.T) {
	l := []hist.Op{
		of(1, did(0, 9, open("/", api.ForRead), api.OK)),
		of(1, did(0, 9, read(0, 1), api.IsDir)),
		of(2, did(0, 9, read(0, 1), api.BadFd)),
	}
	tells(t, l, 0, 1, 2)
	l[1].Thread, l[2].Thread = 2, 1
	none(t, l)
}
