package lin_test

import (
	"fmt"
	"math/rand"
	"slices"
	"testing"

	"warren/api"
	"warren/hist"
	"warren/lin"
	"warren/model"
)

// isOrder is the chapter's words of what an order is.
func isOrder(l []hist.Op, order []int) bool {
	for at, k := range order {
		if k < 0 || k > len(l)-1 || slices.Contains(order[at+1:], k) {
			return false
		}
	}
	for k, o := range l {
		if o.To > -1 && !slices.Contains(order, k) {
			return false
		}
	}
	for at, k := range order {
		for _, behind := range order[at+1:] {
			// What is behind it had Returned when it was Called.
			if to := l[behind].To; to > -1 && l[k].From > to {
				return false
			}
		}
	}
	return true
}

// answered tells whether a new Model answers the calls of the order what they say.
func answered(c api.Config, who []api.Cred, l []hist.Op, order []int) bool {
	m, why := model.New(c, who)
	if why != api.OK {
		return false
	}
	for _, k := range order {
		r := m.Do(l[k].Thread, l[k].Call)
		if l[k].To > -1 && words(r) != words(l[k].Result) {
			return false
		}
	}
	return true
}

// words writes all of a result.
func words(r api.Result) string {
	return fmt.Sprintf("%d %d %q %q %v", int(r.Why), r.N, r.Data, r.Names, r.Stat)
}

// lists goes through all lists of the numbers below n, each once at most, the least first, as long as it is asked to go on.
func lists(n int, see func([]int) bool) {
	var from func(begun []int) bool
	from = func(begun []int) bool {
		if !see(begun) {
			return false
		}
		for k := range n {
			if !slices.Contains(begun, k) && !from(append(slices.Clone(begun), k)) {
				return false
			}
		}
		return true
	}
	from(nil)
}

// holds lets Order, Check and Fits of each list of numbers answer what the chapter's words say, and answers the order.
func holds(t *testing.T, c api.Config, who []api.Cred, l []hist.Op) ([]int, bool) {
	t.Helper()
	var least []int
	is := false
	lists(len(l), func(order []int) bool {
		want := isOrder(l, order) && answered(c, who, l, order)
		if got := lin.Fits(c, who, l, order); got != want {
			t.Fatalf("Fits of %v: %v, of%s", order, got, shows(l))
		}
		if want && !is {
			least, is = order, true
		}
		return true
	})
	order, has, why := lin.Order(c, who, l)
	if !slices.Equal(order, least) || has != is || why != api.OK {
		t.Fatalf("Order: %v, %v, %v, want %v, %v, of%s", order, has, why, least, is, shows(l))
	}
	if has, why := lin.Check(c, who, l); has != is || why != api.OK {
		t.Fatalf("Check: %v, %v, want %v, of%s", has, why, is, shows(l))
	}
	return least, is
}

// set answers calls of a few kinds, each at a few places of events, some of them such as hist.Ops never answers.
func set() []hist.Op {
	var l []hist.Op
	for _, span := range [][2]int{{0, 1}, {2, 3}, {0, 3}, {1, -1}, {3, 0}} {
		for _, o := range []hist.Op{
			did(span[0], span[1], mkdir("/a"), api.OK),
			did(span[0], span[1], mkdir("/a"), api.Exists),
			did(span[0], span[1], rmdir("/a"), api.OK),
			did(span[0], span[1], info("/a"), api.NoEnt),
		} {
			l = append(l, o)
		}
	}
	return l
}

// P19.1: all lists of up to three calls of a set.
func TestAllShortLists(t *testing.T) {
	counted := map[bool]int{}
	var from func(l []hist.Op)
	from = func(l []hist.Op) {
		_, is := holds(t, size, people(), l)
		counted[is]++
		if len(l) == 3 {
			return
		}
		for _, o := range set() {
			// A number that the Model does not ask for tells two that are alike from each other.
			o.Call.M = len(l)
			from(append(slices.Clone(l), o))
		}
	}
	from(nil)
	if counted[true] < 500 || counted[false] < 500 {
		t.Errorf("the lists did not come out in both ways: %v", counted)
	}
}

// some answers a call, out of few enough that they meet one another.
func some(r *rand.Rand) api.Call {
	paths := []string{"/a", "/b", "/a/c", "a", "/", "c"}
	ops := []int{
		api.Mkdir, api.Mkdir, api.Rmdir, api.Open, api.Open, api.Close, api.Read, api.Write, api.Write, api.Seek, api.Truncate, api.Link, api.Unlink,
		api.Link2, api.Readlink, api.Rename, api.Rename, api.Info, api.Chmod, api.Chdir, api.List, api.Bind, api.Unbind, 0,
	}
	c := api.Call{Op: ops[r.Intn(len(ops))], Path: paths[r.Intn(len(paths))], To: paths[r.Intn(len(paths))], Mode: 0o777}
	c.Flags = []int{api.ForRead, api.ForRead | api.ForWrite | api.Make, api.ForWrite | api.Make | api.New, api.ForRead | api.OnlyDir}[r.Intn(4)]
	c.N, c.Data = r.Intn(4), []byte("data")[:r.Intn(5)]
	return c
}

// ran answers so many calls of threads, in any order, each of which a Model was told at some moment between its Called and its Returned, and the order in which it was told them, in which those that were not done yet have no place.
func ran(r *rand.Rand, calls, threads int) ([]hist.Op, []int) {
	m, _ := model.New(size, people())
	var events []api.Event
	var order []int
	busy, done := make([]int, threads), make([]bool, threads) // by thread: the number of its call, from 1 on
	results := make([]api.Result, threads)
	for begun := 0; begun < calls || r.Intn(3) > 0; {
		switch k := r.Intn(threads); {
		case busy[k] == 0 && begun < calls:
			begun++
			busy[k], done[k] = begun, false
			events = append(events, api.Event{Kind: api.Called, Thread: k, Call: some(r)})
		case busy[k] > 0 && !done[k]:
			ops, _, _ := hist.Ops(events)
			done[k], order = true, append(order, busy[k]-1)
			results[k] = m.Do(k, ops[busy[k]-1].Call)
		case busy[k] > 0:
			busy[k] = 0
			events = append(events, api.Event{Kind: api.Returned, Thread: k, Result: results[k]})
		}
	}
	ops, _, _ := hist.Ops(events)
	return shuffled(r, ops, order)
}

// spoils turns one thing of the calls, so that there may be no order of them, or another one.
func spoils(r *rand.Rand, l []hist.Op) {
	o, p := &l[r.Intn(len(l))], &l[r.Intn(len(l))]
	switch r.Intn(6) {
	case 0:
		o.Result, p.Result = p.Result, o.Result
	case 1:
		o.Call, p.Call = p.Call, o.Call
	case 2:
		o.From, o.To, p.From, p.To = p.From, p.To, o.From, o.To
	case 3:
		o.To = r.Intn(12) - 1
	case 4:
		o.Thread = r.Intn(5) - 1
	default:
		turns()[r.Intn(len(turns()))](&o.Result)
	}
}

// shuffled answers the calls in another order, and of each of these numbers the one that it has there.
func shuffled(r *rand.Rand, l []hist.Op, order []int) ([]hist.Op, []int) {
	out, now := make([]hist.Op, len(l)), r.Perm(len(l))
	for k, o := range l {
		out[now[k]] = o
	}
	var renamed []int
	for _, k := range order {
		renamed = append(renamed, now[k])
	}
	return out, renamed
}

// P19.1: calls that came out as if one had come behind the other, and such as may not have, held against the chapter's words.
func TestRunsOfFewCalls(t *testing.T) {
	r := rand.New(rand.NewSource(19))
	counted := map[bool]int{}
	for n := range 700 {
		most := 4
		if n%20 == 0 {
			most = 5
		}
		l, order := ran(r, 1+r.Intn(most), 3)
		fits(t, true, l, order...)
		if r.Intn(3) > 0 {
			spoils(r, l)
		}
		_, is := holds(t, size, people(), l)
		counted[is]++
	}
	if counted[true] < 200 || counted[false] < 100 {
		t.Errorf("the runs did not come out in both ways: %v", counted)
	}
}

// W1: eight calls that came out so have an order that fits, which is not greater than the one in which they were done.
func TestRunsOfManyCalls(t *testing.T) {
	r := rand.New(rand.NewSource(58))
	pending, other := 0, 0
	for range 300 {
		l, done := ran(r, 8, 3)
		order, has, why := lin.Order(size, people(), l)
		if !has || why != api.OK || slices.Compare(order, done) > 0 {
			t.Fatalf("Order: %v, %v, %v, of those that were done as %v:%s", order, has, why, done, shows(l))
		}
		if has, why := lin.Check(size, people(), l); !has || why != api.OK {
			t.Fatalf("Check: %v, %v, of those that were done as %v:%s", has, why, done, shows(l))
		}
		fits(t, true, l, order...)
		fits(t, true, l, done...)
		if len(order) < len(l) {
			pending++
		}
		if !slices.Equal(order, done) {
			other++
		}
		if t.Failed() {
			return
		}
	}
	if pending < 20 || other < 20 {
		t.Errorf("%d orders left one out, %d were not the one in which the calls were done", pending, other)
	}
}

// P19.1: sizes and creds of each kind.
func TestRunsInSmallSystems(t *testing.T) {
	r := rand.New(rand.NewSource(8))
	counted := map[bool]int{}
	for range 300 {
		c := api.Config{Nodes: 1 + r.Intn(3), Blocks: r.Intn(2), Files: 1 + r.Intn(2)}
		who := people()[:1+r.Intn(3)]
		m, _ := model.New(c, who)
		var l []hist.Op
		for k := range 1 + r.Intn(4) {
			o := hist.Op{Thread: r.Intn(4), Call: some(r), From: 2 * k, To: 2*k + 1 + r.Intn(4)}
			o.Result = m.Do(o.Thread, o.Call)
			l = append(l, o)
		}
		if r.Intn(3) == 0 {
			spoils(r, l)
		}
		_, is := holds(t, c, who, l)
		counted[is]++
	}
	if counted[true] < 100 || counted[false] < 20 {
		t.Errorf("the runs did not come out in both ways: %v", counted)
	}
}
