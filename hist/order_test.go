package hist_test

import (
	"math"
	"slices"
	"testing"

	"warren/api"
	"warren/hist"
)

// span answers a call that was Called and Returned at these places.
func span(from, to int) hist.Op { return hist.Op{From: from, To: to} }

// before lets Before answer this of a and b.
func before(t *testing.T, a, b hist.Op, want bool) {
	t.Helper()
	if got := hist.Before(a, b); got != want {
		t.Errorf("Before(%d to %d, %d to %d): %v", a.From, a.To, b.From, b.To, got)
	}
}

// apart lets a be Before b, and b not Before a.
func apart(t *testing.T, a, b hist.Op) {
	t.Helper()
	before(t, a, b, true)
	before(t, b, a, false)
}

// atOnce lets neither be Before the other.
func atOnce(t *testing.T, a, b hist.Op) {
	t.Helper()
	before(t, a, b, false)
	before(t, b, a, false)
}

// P18.2: calls that are apart, that touch, and that overlap in each way.
func TestBefore(t *testing.T) {
	apart(t, span(0, 1), span(2, 3))
	apart(t, span(0, 1), span(9, 12))
	apart(t, span(3, 7), span(8, 9))
	apart(t, span(0, 1), span(math.MaxInt-1, math.MaxInt))
	atOnce(t, span(0, 2), span(1, 3))
	atOnce(t, span(0, 3), span(1, 2))
	atOnce(t, span(5, 9), span(6, 7))
	atOnce(t, span(0, 2), span(2, 3))
	atOnce(t, span(0, 3), span(0, 5))
	atOnce(t, span(0, 5), span(4, 5))
}

// P18.2: a pending call is Before none; others may be Before it.
func TestBeforeOfPending(t *testing.T) {
	apart(t, span(0, 1), span(2, -1))
	atOnce(t, span(0, -1), span(1, 2))
	atOnce(t, span(0, -1), span(1, -1))
	atOnce(t, span(0, 2), span(1, -1))
	atOnce(t, span(5, -1), span(5, -1))
	for _, to := range []int{-1, -2, -9, math.MinInt} {
		before(t, span(0, to), span(9, 10), false)
		before(t, span(0, to), span(math.MaxInt, to), false)
	}
	apart(t, span(-1, 0), span(1, 2))
}

// P18.2: of calls that Ops answers only the places count.
func TestBeforeAsksForPlacesAlone(t *testing.T) {
	a := hist.Op{Thread: 1, Call: written(1), Result: came(1), From: 0, To: 1}
	for _, b := range []hist.Op{{Thread: 1, Call: written(1), Result: came(1)}, {Thread: 0}, {Thread: 2, Call: written(2)}, {Thread: -1, Result: came(3)}} {
		b.From, b.To = 2, 3
		apart(t, a, b)
		b.From, b.To = 1, 2
		atOnce(t, a, b)
	}
}

// The chapter's second example: of each call, be it one that Ops answers or not.
func TestNoCallIsBeforeItself(t *testing.T) {
	places := []int{0, 1, 2, 3, -1, -2, math.MaxInt, math.MinInt}
	for _, from := range places {
		for _, to := range places {
			before(t, span(from, to), span(from, to), false)
			if hist.Serial([]hist.Op{span(from, to), span(from, to)}) {
				t.Errorf("Serial of a call and itself, %d to %d", from, to)
			}
		}
	}
}

// turnedCalls answers calls of the same places, each of which has one thing that the first has not.
func turnedCalls(from, to int) []hist.Op {
	one := func() hist.Op {
		return hist.Op{Thread: 1, Call: written(1), Result: full(), From: from, To: to}
	}
	l := []hist.Op{one()}
	for _, turn := range []func(*hist.Op){
		func(o *hist.Op) { o.Thread = 2 },
		func(o *hist.Op) { o.Call.Op = api.Read },
		func(o *hist.Op) { o.Call.Path = "/q" },
		func(o *hist.Op) { o.Call.To = "" },
		func(o *hist.Op) { o.Call.Fd = 7 },
		func(o *hist.Op) { o.Call.Flags = 7 },
		func(o *hist.Op) { o.Call.Mode = 7 },
		func(o *hist.Op) { o.Call.N = 7 },
		func(o *hist.Op) { o.Call.M = 7 },
		func(o *hist.Op) { o.Call.Data = nil },
		func(o *hist.Op) { o.Call.Data[1] = 8 },
		func(o *hist.Op) { o.Result = api.Result{} },
		func(o *hist.Op) { o.Result.Names[2] = " " },
	} {
		o := one()
		turn(&o)
		l = append(l, o)
	}
	return l
}

// P18.2: of two calls that are not the same each had Returned when the other was Called, if their To is below their From, which is the same.
func TestBeforeOfTwoOfTheSamePlaces(t *testing.T) {
	for i, a := range turnedCalls(5, 1) {
		for k, b := range turnedCalls(5, 1) {
			before(t, a, b, i != k)
			serial(t, i != k, a, b)
		}
	}
	serial(t, true, turnedCalls(5, 1)[:4]...)
	serial(t, false, append(turnedCalls(5, 1)[:3], turnedCalls(5, 1)[1])...)
	serial(t, true, append(turnedCalls(5, 1)[:3], span(0, 0), span(6, 7))...)
	serial(t, false, append(turnedCalls(5, 1)[:3], span(1, 5))...)
	for _, to := range []int{5, 9, -1} {
		l := turnedCalls(5, to)
		atOnce(t, l[0], l[1])
		serial(t, false, l[:2]...)
	}
}

// orders goes through all orders of the calls.
func orders(l []hist.Op, see func([]hist.Op)) {
	var place func(ahead, left []hist.Op)
	place = func(ahead, left []hist.Op) {
		if len(left) == 0 {
			see(ahead)
		}
		for i, o := range left {
			place(append(slices.Clone(ahead), o), slices.Concat(left[:i], left[i+1:]))
		}
	}
	place(nil, l)
}

// serial lets Serial answer this of the calls, whatever order the list has.
func serial(t *testing.T, want bool, l ...hist.Op) {
	t.Helper()
	orders(l, func(l []hist.Op) {
		if got := hist.Serial(l); got != want {
			t.Errorf("Serial(%s): %v", shows(l), got)
		}
	})
}

// P18.2: none and one are Serial.
func TestSerialOfFew(t *testing.T) {
	for _, l := range [][]hist.Op{nil, {}, []hist.Op{span(0, 1), span(0, 1)}[:0]} {
		if !hist.Serial(l) {
			t.Error("Serial of no calls: false")
		}
	}
	serial(t, true, span(0, 1))
	serial(t, true, span(5, -1))
	serial(t, true, span(0, 0))
}

// P18.2: of each two one is Before the other, in whatever order they stand in the list.
func TestSerial(t *testing.T) {
	serial(t, true, span(0, 1), span(2, 3))
	serial(t, true, span(0, 1), span(2, 3), span(4, 5), span(8, 9))
	serial(t, true, span(0, 1), span(2, 3), span(4, -1))
	serial(t, false, span(0, 2), span(1, 3))
	serial(t, false, span(0, 3), span(1, 2))
	serial(t, false, span(0, -1), span(1, 2))
	serial(t, false, span(0, 1), span(2, -1), span(3, -1))
	serial(t, false, span(0, 1), span(2, -1), span(3, 4))
	serial(t, false, span(0, 1), span(2, 9), span(3, 4), span(5, 6))
	serial(t, false, span(0, 9), span(1, 2), span(3, 4), span(5, 6))
	serial(t, false, span(0, 1), span(2, 3), span(4, 6), span(5, 7))
	serial(t, false, span(0, 1), span(2, 3), span(2, 3), span(4, 5))
}

// P18.2: calls that Ops never answers, whose To is below their From, are asked by the same words.
func TestSerialOfCallsThatCannotBe(t *testing.T) {
	serial(t, true, span(5, 2), span(3, 4))
	serial(t, true, span(0, 9), span(10, 1), span(11, 12))
	serial(t, false, span(3, 9), span(5, 4), span(10, 11))
	serial(t, true, span(3, 9), span(5, 2), span(7, 0), span(10, 11))
	serial(t, true, span(3, -1), span(5, 2), span(7, 0))
	serial(t, false, span(5, 4), span(5, 4), span(9, 10))
}

// P18.2: Serial of what Ops answers.
func TestSerialOfOps(t *testing.T) {
	for s, want := range map[string]bool{
		"": true, "c0": true, "x0": true, "c0 r0": true, "c0 c1": false, "c0 r0 c0": true, "c0 r0 c1": true, "c0 c1 r0": false,
		"c0 r0 c1 r1": true, "c0 c1 r0 r1": false, "c0 c1 r1 r0": false, "c0 r0 c1 r1 c0 c1": false, "x1 c0 x1 r0 x0 c1 x9 r1": true,
	} {
		ops, why, _ := hist.Ops(row(s))
		if why != api.OK || hist.Serial(ops) != want {
			t.Errorf("Serial of Ops(%s): %v, want %v", s, !want, want)
		}
	}
}

// full answers a result with all fields.
func full() api.Result {
	return api.Result{
		Why: api.NoEnt, N: 2, Data: []byte("data"), Names: []string{"x", "yy", ""},
		Stat: api.Stat{Node: 1, Kind: api.File, Mode: 0o644, Uid: 5, Gid: 6, Links: 7, Size: 8},
	}
}

// turned are ways of turning one thing in a result.
func turned() []func(*api.Result) {
	return []func(*api.Result){
		func(r *api.Result) { r.Why = api.OK },
		func(r *api.Result) { r.Why = api.ErrArg },
		func(r *api.Result) { r.N = 0 },
		func(r *api.Result) { r.N = -2 },
		func(r *api.Result) { r.N += 1 << 32 },
		func(r *api.Result) { r.Data = nil },
		func(r *api.Result) { r.Data = []byte{} },
		func(r *api.Result) { r.Data = r.Data[:3] },
		func(r *api.Result) { r.Data = append(r.Data, 0) },
		func(r *api.Result) { r.Data[0] = 'e' },
		func(r *api.Result) { r.Data[3] = 'b' },
		func(r *api.Result) { r.Names = nil },
		func(r *api.Result) { r.Names = []string{} },
		func(r *api.Result) { r.Names = r.Names[:2] },
		func(r *api.Result) { r.Names = append(r.Names, "") },
		func(r *api.Result) { r.Names[0], r.Names[1] = r.Names[1], r.Names[0] },
		func(r *api.Result) { r.Names[0] = "X" },
		func(r *api.Result) { r.Names[2] = " " },
		func(r *api.Result) { r.Names = []string{"x,yy", ""} },
		func(r *api.Result) { r.Stat = api.Stat{} },
		func(r *api.Result) { r.Stat.Node = 0 },
		func(r *api.Result) { r.Stat.Kind = api.Dir },
		func(r *api.Result) { r.Stat.Mode = 0o645 },
		func(r *api.Result) { r.Stat.Uid = 6 },
		func(r *api.Result) { r.Stat.Gid = 5 },
		func(r *api.Result) { r.Stat.Links = 8 },
		func(r *api.Result) { r.Stat.Size = 7 },
	}
}

// alike lets Same answer this of both, whichever comes first.
func alike(t *testing.T, a, b api.Result, want bool) {
	t.Helper()
	if hist.Same(a, b) != want || hist.Same(b, a) != want {
		t.Errorf("Same(%v, %v): %v", a, b, !want)
	}
}

// P18.2: all fields alike, and each by itself not.
func TestSame(t *testing.T) {
	alike(t, full(), full(), true)
	alike(t, api.Result{}, api.Result{}, true)
	alike(t, full(), api.Result{}, false)
	for i, turn := range turned() {
		r := full()
		turn(&r)
		alike(t, r, r, true)
		if hist.Same(r, full()) || hist.Same(full(), r) {
			t.Errorf("Same with what %d turns: true", i)
		}
	}
	for n := range 20 {
		for k := range 20 {
			alike(t, came(n), came(k), n == k)
		}
	}
}

// P18.2: each field by itself, where all others are zero.
func TestSameOfOneField(t *testing.T) {
	one := []api.Result{
		{}, {Why: 1}, {Why: -1}, {N: 1}, {N: -1}, {Data: []byte{0}}, {Data: []byte{0, 0}}, {Data: []byte{1}}, {Names: []string{""}}, {Names: []string{"", ""}}, {Names: []string{"\x00"}},
		{Stat: api.Stat{Node: 1}}, {Stat: api.Stat{Kind: 1}}, {Stat: api.Stat{Mode: 1}}, {Stat: api.Stat{Uid: 1}}, {Stat: api.Stat{Gid: 1}}, {Stat: api.Stat{Links: 1}}, {Stat: api.Stat{Size: 1}},
	}
	for i, a := range one {
		for k, b := range one {
			alike(t, a, b, i == k)
		}
	}
}

// R4, R5: nil and empty lists are alike, and what lies behind a list's length does not count.
func TestSameOfEmptyLists(t *testing.T) {
	for _, data := range [][]byte{nil, {}, []byte("room")[:0]} {
		for _, names := range [][]string{nil, {}, []string{"room"}[:0]} {
			alike(t, api.Result{}, api.Result{Data: data, Names: names}, true)
			alike(t, api.Result{N: 1, Data: data}, api.Result{N: 1, Names: names}, true)
			alike(t, api.Result{N: 1, Data: data}, api.Result{Names: names}, false)
		}
	}
	alike(t, api.Result{Data: []byte("data")[:1]}, api.Result{Data: []byte("dust")[:1]}, true)
	alike(t, api.Result{Names: []string{"a", "b"}[:1]}, api.Result{Names: []string{"a", "c"}[:1]}, true)
}
