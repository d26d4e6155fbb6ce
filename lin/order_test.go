package lin_test

import (
	"slices"
	"testing"

	"warren/api"
	"warren/hist"
)

// P19.1: of several orders that fit the least is told, number for number.
func TestLeastOrder(t *testing.T) {
	a, b, ab := mkdir("/a"), mkdir("/b"), mkdir("/a/b")
	tells(t, []hist.Op{did(0, 9, a, api.OK), did(0, 9, b, api.OK)}, 0, 1)
	tells(t, []hist.Op{did(5, 9, a, api.OK), did(0, 9, b, api.OK)}, 0, 1)
	tells(t, []hist.Op{did(0, 9, ab, api.OK), did(0, 9, a, api.OK), did(0, 9, b, api.OK)}, 1, 0, 2)
	tells(t, []hist.Op{did(0, 9, b, api.OK), did(0, 9, ab, api.OK), did(0, 9, a, api.OK)}, 0, 2, 1)
	tells(t, []hist.Op{did(0, 9, ab, api.OK), did(0, 9, b, api.OK), did(0, 9, a, api.OK)}, 1, 2, 0)
	tells(t, []hist.Op{did(0, 9, a, api.Exists), did(0, 9, a, api.Exists), did(0, 9, a, api.OK)}, 2, 0, 1)
	tells(t, []hist.Op{did(0, 9, a, api.Exists), did(0, 9, a, api.OK), did(0, 9, a, api.Exists)}, 1, 0, 2)
	none(t, []hist.Op{did(0, 9, a, api.Exists), did(0, 9, a, api.OK), did(0, 9, a, api.OK)})
	// Each has what undoes it.
	tells(t, []hist.Op{did(0, 9, a, api.OK), did(0, 9, a, api.OK), did(0, 9, rmdir("/a"), api.OK)}, 0, 2, 1)
	tells(t, []hist.Op{did(0, 9, rmdir("/a"), api.OK), did(0, 9, rmdir("/a"), api.OK), did(0, 9, a, api.OK), did(0, 9, a, api.OK)}, 2, 0, 3, 1)
}

// P19.1: a beginning comes ahead of what it begins; a greater number does not make a list that is shorter the lesser one.
func TestOrderThatBeginsAnother(t *testing.T) {
	a, ab, abc := mkdir("/a"), mkdir("/a/b"), mkdir("/a/b/c")
	l := []hist.Op{did(0, 9, a, api.OK), waits(0, ab), waits(0, abc)}
	tells(t, l, 0)
	for _, order := range [][]int{{0, 1}, {0, 1, 2}, {0, 2}, {0, 2, 1}, {1, 0}, {2, 1, 0}} {
		fits(t, true, l, order...)
	}
	tells(t, []hist.Op{waits(0, a), did(0, 9, ab, api.OK), waits(0, abc)}, 0, 1)
	tells(t, []hist.Op{waits(0, ab), waits(0, a), did(0, 9, abc, api.OK)}, 1, 0, 2)
	// Those that came to nothing are in it as well: 0 is less than 3.
	tells(t, []hist.Op{waits(0, ab), waits(0, abc), waits(0, rmdir("/")), did(0, 9, a, api.OK)}, 0, 1, 2, 3)
	// Behind 3 there is no need of the others any more.
	tells(t, []hist.Op{waits(0, ab), waits(0, abc), waits(0, a), did(0, 9, ab, api.OK)}, 0, 1, 2, 3)
	tells(t, []hist.Op{waits(0, a), waits(0, a), did(0, 9, ab, api.NoEnt), waits(0, a)}, 2)
}

// P19.1: calls one behind the other have one order, in whatever order they are told.
func TestCallsOneBehindTheOther(t *testing.T) {
	l := []hist.Op{
		did(0, 1, mkdir("/a"), api.OK),
		did(2, 3, mkdir("/a"), api.Exists),
		did(4, 5, rmdir("/a"), api.OK),
		did(6, 7, mkdir("/a"), api.OK),
		came(8, 9, list("/"), api.Result{Names: []string{"a"}}),
		did(10, 11, rmdir("/a"), api.OK),
		did(12, 13, rmdir("/a"), api.NoEnt),
		did(14, 15, mkdir("/a"), api.OK),
	}
	order := []int{0, 1, 2, 3, 4, 5, 6, 7}
	tells(t, l, order...)
	turned := slices.Clone(l)
	slices.Reverse(turned)
	tells(t, turned, 7, 6, 5, 4, 3, 2, 1, 0)
	for k := range l[1:] {
		other := slices.Clone(l)
		other[k].From, other[k+1].From = l[k+1].From, l[k].From
		other[k].To, other[k+1].To = l[k+1].To, l[k].To
		none(t, other)
		fits(t, false, other, order...)
		// If both are at once, the one may have come ahead of the other.
		other[k+1].From, other[k+1].To = other[k].From, other[k].To
		tells(t, other, order...)
	}
}

// P19.1: calls of which one was Called where the other Returned, or ahead of it, are at once.
func TestCallsThatTouch(t *testing.T) {
	a := mkdir("/a")
	for from, apart := range map[int]bool{0: false, 3: false, 4: false, 5: true, 99: true} {
		if l := []hist.Op{did(from, 100, a, api.OK), did(0, 4, a, api.Exists)}; apart {
			none(t, l)
		} else {
			tells(t, l, 0, 1)
		}
		tells(t, []hist.Op{did(from, 100, a, api.Exists), did(0, 4, a, api.OK)}, 1, 0)
	}
}

// P19.1: a To of 0 is that of a call which Returned, any below that of none.
func TestWhatReturned(t *testing.T) {
	a := mkdir("/a")
	tells(t, []hist.Op{did(0, 0, a, api.OK)}, 0)
	fits(t, false, []hist.Op{did(0, 0, a, api.OK)})
	none(t, []hist.Op{did(0, 0, a, api.Exists)})
	none(t, []hist.Op{did(0, 0, a, api.Exists), did(1, 1, a, api.OK)})
	for _, to := range []int{-1, -2, -99, -1 << 62} {
		l := []hist.Op{did(0, to, a, api.Exists)}
		tells(t, l)
		fits(t, true, l, 0)
		tells(t, []hist.Op{did(0, to, a, api.Exists), did(5, 6, a, api.OK)}, 1)
		tells(t, []hist.Op{did(0, to, a, api.OK), did(5, 6, a, api.Exists)}, 0, 1)
		tells(t, []hist.Op{did(5, 6, a, api.OK), did(0, to, a, api.OK)}, 0)
	}
}

// P19.1: From may be below 0, as any number.
func TestCalledAheadOfAll(t *testing.T) {
	a := mkdir("/a")
	tells(t, []hist.Op{did(-9, 3, a, api.Exists), did(-5, 2, a, api.OK)}, 1, 0)
	none(t, []hist.Op{did(-9, 0, a, api.Exists), did(1, 2, a, api.OK)})
	tells(t, []hist.Op{did(-9, 0, a, api.Exists), did(-1, 2, a, api.OK)}, 1, 0)
	tells(t, []hist.Op{did(-9, -8, a, api.Exists), did(-1, 2, a, api.OK)}, 1)
}

// P19.1: calls whose To is below their From are asked by the same words: two may each be Before the other, and then have no order.
func TestCallsThatCannotBe(t *testing.T) {
	a, ab := mkdir("/a"), mkdir("/a/b")
	tells(t, []hist.Op{did(5, 1, a, api.OK)}, 0)
	none(t, []hist.Op{did(5, 1, a, api.OK), did(5, 1, ab, api.OK)})
	none(t, []hist.Op{did(5, 1, a, api.OK), did(4, 2, ab, api.OK)})
	tells(t, []hist.Op{did(5, 1, ab, api.OK), did(0, 3, a, api.OK)}, 1, 0)
	none(t, []hist.Op{did(5, 1, a, api.OK), did(0, 3, ab, api.OK)})
	tells(t, []hist.Op{did(5, 1, ab, api.OK), did(0, 1, a, api.OK), waits(0, rmdir("/a"))}, 1, 0)
	// One had Returned when the pending one was Called, which was ahead of its own Called.
	tells(t, []hist.Op{waits(3, a), did(5, 1, ab, api.NoEnt)}, 1)
	none(t, []hist.Op{waits(3, a), did(5, 1, ab, api.OK)})
	fits(t, false, []hist.Op{waits(3, a), did(5, 1, a, api.Exists)}, 0, 1)
}

// opened answers calls at once whose results have every field but Names and Stat.
func opened() []hist.Op {
	return []hist.Op{
		came(0, 9, open("/f", api.ForRead|api.ForWrite|api.Make), api.Result{}),
		came(0, 9, open("/f", api.ForRead), api.Result{N: 1}),
		came(0, 9, write(0, "abc"), api.Result{N: 3}),
		came(0, 9, read(1, 9), api.Result{Data: []byte("abc")}),
		came(0, 9, unlink("/g"), api.Result{Why: api.NoEnt}),
	}
}

// looked answers calls at once whose results have Names and Stat.
func looked() []hist.Op {
	return []hist.Op{
		of(0, came(0, 9, mkdir("/d"), api.Result{})),
		of(0, came(0, 9, mkdir("/e"), api.Result{})),
		of(1, came(0, 9, list("/"), api.Result{Names: []string{"d", "e"}})),
		of(2, came(0, 9, info("/e"), api.Result{Stat: api.Stat{Node: 3, Kind: api.Dir, Mode: 0o777, Links: 2}})),
	}
}

// turns are ways of turning one field of a result.
func turns() []func(*api.Result) {
	return []func(*api.Result){
		func(r *api.Result) { r.Why += 1 },
		func(r *api.Result) { r.Why = -1 },
		func(r *api.Result) { r.N += 50 },
		func(r *api.Result) { r.N -= 50 },
		func(r *api.Result) { r.Data = append(r.Data[:len(r.Data):len(r.Data)], 0) },
		func(r *api.Result) { r.Data = []byte("abd") },
		func(r *api.Result) { r.Names = append(r.Names[:len(r.Names):len(r.Names)], "") },
		func(r *api.Result) { r.Names = []string{"e", "d"} },
		func(r *api.Result) { r.Stat.Node += 50 },
		func(r *api.Result) { r.Stat.Kind++ },
		func(r *api.Result) { r.Stat.Mode ^= 1 },
		func(r *api.Result) { r.Stat.Uid++ },
		func(r *api.Result) { r.Stat.Gid++ },
		func(r *api.Result) { r.Stat.Links += 50 },
		func(r *api.Result) { r.Stat.Size += 50 },
	}
}

// P19.1: what nobody answers so, be it in one field alone.
func TestEachFieldOfResults(t *testing.T) {
	for _, l := range [][]hist.Op{opened(), looked()} {
		order := []int{0, 1, 2, 3, 4}[:len(l)]
		tells(t, l, order...)
		for k := range l {
			for _, turn := range turns() {
				turned := slices.Clone(l)
				turn(&turned[k].Result)
				none(t, turned)
				fits(t, false, turned, order...)
			}
		}
	}
}

// P19.1: what a pending call holds as its Result does not count.
func TestResultsOfPendingCalls(t *testing.T) {
	for _, l := range [][]hist.Op{opened(), looked()} {
		for k := range l {
			for _, turn := range turns() {
				turned := slices.Clone(l)
				turned[k].To = -1
				turn(&turned[k].Result)
				fits(t, true, turned, []int{0, 1, 2, 3, 4}[:len(l)]...)
			}
		}
	}
}

// P19.1: lists that are empty are alike, nil or not.
func TestEmptyListsOfResults(t *testing.T) {
	none := api.Result{Data: []byte{}, Names: []string{}}
	tells(t, []hist.Op{came(0, 1, mkdir("/a"), none), came(2, 3, list("/a"), none), came(4, 5, open("/f", api.ForRead|api.Make), none), came(6, 7, read(0, 9), none)}, 0, 1, 2, 3)
}
