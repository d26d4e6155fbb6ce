package hist_test

import (
	"bytes"
	"fmt"
	"math"
	"slices"
	"strings"
	"testing"

	"warren/api"
	"warren/hist"
)

// written answers a call that no other number's is like.
func written(n int) api.Call {
	return api.Call{Op: api.Write, Path: fmt.Sprint("/p", n), To: fmt.Sprint("to", n), Fd: n, Flags: n + 1, Mode: n + 2, N: n + 3, M: n + 4, Data: []byte{byte(n), 7}}
}

// came answers a result that no other number's is like.
func came(n int) api.Result {
	st := api.Stat{Node: n, Kind: n + 1, Mode: n + 2, Uid: n + 3, Gid: n + 4, Links: n + 5, Size: n + 6}
	return api.Result{Why: api.Errno(n), N: n + 1, Data: []byte{byte(n), 9}, Names: []string{"n", fmt.Sprint(n)}, Stat: st}
}

// called, returned and refused answer the event of that thread, with the number's call or result.
func called(thread, n int) api.Event {
	return api.Event{Kind: api.Called, Thread: thread, Call: written(n)}
}

func returned(thread, n int) api.Event {
	return api.Event{Kind: api.Returned, Thread: thread, Result: came(n)}
}

func refused(thread int) api.Event {
	return api.Event{Kind: api.Refused, Thread: thread, Call: written(100)}
}

// row reads events like "c0 r0 x9": Called of 0, Returned of 0, Refused of 9, each with the number of its place. Any other number ahead of a colon is the Kind itself: "4:0".
func row(s string) []api.Event {
	var l []api.Event
	for at, word := range strings.Fields(s) {
		var kind, thread int
		switch word[0] {
		case 'c':
			fmt.Sscanf(word, "c%d", &thread)
			l = append(l, called(thread, at))
		case 'r':
			fmt.Sscanf(word, "r%d", &thread)
			l = append(l, returned(thread, at))
		case 'x':
			fmt.Sscanf(word, "x%d", &thread)
			l = append(l, refused(thread))
		default:
			fmt.Sscanf(word, "%d:%d", &kind, &thread)
			l = append(l, api.Event{Kind: kind, Thread: thread, Call: written(at), Result: came(at)})
		}
	}
	return l
}

// sameCall holds two calls against each other; nil and empty Data are the same.
func sameCall(c, d api.Call) bool {
	return c.Op == d.Op && c.Path == d.Path && c.To == d.To && c.Fd == d.Fd && c.Flags == d.Flags &&
		c.Mode == d.Mode && c.N == d.N && c.M == d.M && bytes.Equal(c.Data, d.Data)
}

// sameResult holds two results against each other as a whole; nil and empty lists are the same.
func sameResult(r, s api.Result) bool {
	return fmt.Sprintf("%q %d %d %q %v", r.Data, int(r.Why), r.N, r.Names, r.Stat) == fmt.Sprintf("%q %d %d %q %v", s.Data, int(s.Why), s.N, s.Names, s.Stat)
}

// same holds two of what Ops answers against each other.
func same(o, p hist.Op) bool {
	return o.Thread == p.Thread && o.From == p.From && o.To == p.To && sameCall(o.Call, p.Call) && sameResult(o.Result, p.Result)
}

// shows answers the calls' threads and places, as "0:2-5"; a call without a Returned ends on "-".
func shows(ops []hist.Op) string {
	var out []string
	for _, o := range ops {
		to := fmt.Sprint(o.To)
		if o.To == -1 {
			to = ""
		}
		out = append(out, fmt.Sprintf("%d:%d-%s", o.Thread, o.From, to))
	}
	return strings.Join(out, " ")
}

// tells lets Ops answer the calls of these threads and places, each with what its events of a row hold.
func tells(t *testing.T, s, want string) {
	t.Helper()
	ops, why, at := hist.Ops(row(s))
	if shows(ops) != want || why != api.OK || at != 0 {
		t.Errorf("Ops(%s): %s, %v at %d, want %s", s, shows(ops), why, at, want)
		return
	}
	for _, o := range ops {
		var r api.Result
		if o.To >= 0 {
			r = came(o.To)
		}
		if !sameCall(o.Call, written(o.From)) || !sameResult(o.Result, r) {
			t.Errorf("Ops(%s): of %s: %v, %v", s, shows([]hist.Op{o}), o.Call, o.Result)
		}
	}
}

// refuses lets Ops refuse the events for the one at this place, with nothing beside it.
func refuses(t *testing.T, l []api.Event, want int) {
	t.Helper()
	if ops, why, at := hist.Ops(l); why != api.ErrForm || at != want || len(ops) != 0 {
		t.Errorf("Ops of %d events: %s, %v at %d, want ErrForm at %d", len(l), shows(ops), why, at, want)
	}
}

// The chapter's runs and examples.
func TestRunsAndExamples(t *testing.T) {
	tells(t, "c0 c1 r0", "0:0-2 1:1-")
	ops, _, _ := hist.Ops(row("c0 c1 r0"))
	if hist.Serial(ops) {
		t.Error("Serial of a call that a pending one is at once with")
	}
	refuses(t, row("r0"), 0)
	tells(t, "", "")
	ops, _, _ = hist.Ops(nil)
	if !hist.Serial(ops) {
		t.Error("Serial of no calls: false")
	}
	a := hist.Op{From: 0, To: 1}
	if hist.Before(a, a) {
		t.Error("Before(a, a): true")
	}
}

// P18.1: no events, said in each way.
func TestNoEvents(t *testing.T) {
	for _, l := range [][]api.Event{nil, {}, row("r0 c0")[:0]} {
		if ops, why, at := hist.Ops(l); len(ops) != 0 || why != api.OK || at != 0 {
			t.Errorf("Ops of nothing: %s, %v at %d", shows(ops), why, at)
		}
	}
}

// P18.1: the places of Called and Returned, in the order in which they were Called, whatever the order in which they Returned.
func TestOpsInTheOrderOfCalled(t *testing.T) {
	tells(t, "c0", "0:0-")
	tells(t, "c0 r0", "0:0-1")
	tells(t, "c7 r7 c7 r7", "7:0-1 7:2-3")
	tells(t, "c0 r0 c0", "0:0-1 0:2-")
	tells(t, "c1 c0 r0 r1", "1:0-3 0:1-2")
	tells(t, "c0 c1 r0 r1", "0:0-2 1:1-3")
	tells(t, "c1 c0 r1 r0", "1:0-2 0:1-3")
	tells(t, "c0 c1 r0 c0 r1 c1 r0 r1", "0:0-2 1:1-4 0:3-6 1:5-7")
	tells(t, "c3 c2 c1 c0 r1 r3 r0 r2", "3:0-5 2:1-7 1:2-4 0:3-6")
	tells(t, "c0 r0 c1 r1 c0 c1 r1 c1 r1 r0", "0:0-1 1:2-3 0:4-9 1:5-6 1:7-8")
	tells(t, "c7 c6 c5 c4 c3 c2 c1 c0 r7 r6 r5 r4 r3 r2 r1 r0", "7:0-8 6:1-9 5:2-10 4:3-11 3:4-12 2:5-13 1:6-14 0:7-15")
}

// P18.1: a call that never Returned has To -1 and a zero Result, be it the last one or not.
func TestOpsThatNeverReturn(t *testing.T) {
	tells(t, "c0 c1 c2", "0:0- 1:1- 2:2-")
	tells(t, "c0 c1 r1 c1 r1", "0:0- 1:1-2 1:3-4")
	tells(t, "c0 r0 c0 c1 r1 x0 c2", "0:0-1 0:2- 1:3-4 2:6-")
	tells(t, "c0 c1 c2 c3 c4 c5 c6 c7 r3", "0:0- 1:1- 2:2- 3:3-8 4:4- 5:5- 6:6- 7:7-")
}

// P18.1: what a Called holds as its Result, and a Returned as its Call, is not told.
func TestOpsTakeCallsOfCalledAndResultsOfReturned(t *testing.T) {
	tells(t, "1:0", "0:0-")
	tells(t, "1:0 2:0 1:0", "0:0-1 0:2-")
	tells(t, "1:5 1:4 2:5", "5:0-2 4:1-")
	l := []api.Event{{Kind: api.Called, Thread: 2}, {Kind: api.Returned, Thread: 2, Call: written(3)}}
	ops, why, at := hist.Ops(l)
	if len(ops) != 1 || why != api.OK || at != 0 || !same(ops[0], hist.Op{Thread: 2, To: 1}) {
		t.Errorf("Ops of events that hold nothing: %v, %v at %d", ops, why, at)
	}
}

// P18.1: Refused events are passed by, whatever their thread, and keep their places.
func TestRefusedArePassedBy(t *testing.T) {
	tells(t, "x0", "")
	tells(t, "x0 x0 x7 x8 x-1", "")
	tells(t, "x0 c0 x0 x0 r0 x0", "0:1-4")
	tells(t, "x1 c0 x1 x8 c1 x99 r1 x-1 r0", "0:1-8 1:4-6")
	tells(t, "c0 3:0 r0", "0:0-2")
	for _, thread := range []int{-1, -2, 0, 1, 7, 8, 9, 99, 255, 1 << 32, math.MinInt, math.MaxInt} {
		l := []api.Event{refused(thread), called(3, 1), refused(thread), returned(3, 3), refused(thread)}
		if ops, why, at := hist.Ops(l); shows(ops) != "3:1-3" || why != api.OK || at != 0 {
			t.Errorf("Ops with Refused of %d: %s, %v at %d", thread, shows(ops), why, at)
		}
		refuses(t, append(l, returned(3, 5)), 5)
	}
}

// P18.1: each thread 0 to 7, and none else.
func TestThreads(t *testing.T) {
	for thread := range 8 {
		tells(t, fmt.Sprintf("c%d r%d c%d", thread, thread, thread), fmt.Sprintf("%d:0-1 %d:2-", thread, thread))
	}
	for _, thread := range []int{-1, -2, -7, -8, 8, 9, 16, 255, 256, 1 << 32, 1<<32 + 1, math.MinInt, math.MaxInt} {
		refuses(t, []api.Event{called(thread, 0)}, 0)
		refuses(t, []api.Event{returned(thread, 0)}, 0)
		refuses(t, []api.Event{called(thread, 0), returned(thread, 1)}, 0)
		refuses(t, []api.Event{called(0, 0), called(thread, 1)}, 1)
		refuses(t, []api.Event{called(0, 0), called(7, 1), returned(thread, 2)}, 2)
	}
}

// P18.1: a Kind that is none, whatever its thread.
func TestKinds(t *testing.T) {
	for _, kind := range []int{0, 4, 5, 9, -1, -2, -3, 255, 256, 257, 1<<32 + 1, 1<<32 + 2, 1<<32 + 3, math.MinInt, math.MaxInt} {
		for _, thread := range []int{0, 1, 7, 8, -1} {
			e := api.Event{Kind: kind, Thread: thread, Call: written(1), Result: came(1)}
			refuses(t, []api.Event{e}, 0)
			refuses(t, []api.Event{called(0, 0), e}, 1)
			refuses(t, []api.Event{called(0, 0), returned(0, 1), e}, 2)
			refuses(t, []api.Event{e, called(0, 0), returned(0, 1)}, 0)
		}
	}
	refuses(t, make([]api.Event, 3), 0)
}

// P18.1: a Called of a thread that has one.
func TestCalledTwice(t *testing.T) {
	for thread := range 8 {
		other := (thread + 1) % 8
		refuses(t, []api.Event{called(thread, 0), called(thread, 1)}, 1)
		refuses(t, []api.Event{called(thread, 0), refused(thread), called(thread, 2)}, 2)
		refuses(t, []api.Event{called(thread, 0), called(other, 1), returned(other, 2), called(thread, 3), returned(thread, 4)}, 3)
		refuses(t, []api.Event{called(other, 0), called(thread, 1), returned(thread, 2), called(thread, 3), called(thread, 4)}, 4)
	}
}

// P18.1: a Returned of a thread that has no call: none ever, or none any more.
func TestReturnedOfNone(t *testing.T) {
	for thread := range 8 {
		other := (thread + 7) % 8
		refuses(t, []api.Event{returned(thread, 0)}, 0)
		refuses(t, []api.Event{called(other, 0), returned(thread, 1)}, 1)
		refuses(t, []api.Event{called(thread, 0), returned(thread, 1), returned(thread, 2)}, 2)
		refuses(t, []api.Event{refused(thread), returned(thread, 1)}, 1)
		refuses(t, []api.Event{called(thread, 0), called(other, 1), returned(thread, 2), refused(thread), returned(thread, 4), returned(other, 5)}, 4)
	}
}

// P18.1: of several events that may not be the first one's place is told, and what is in order behind it does not mend it.
func TestFirstThatMayNotBeIsTold(t *testing.T) {
	wrong := []string{"r0", "c8", "r-1", "0:0", "4:1", "-1:9"}
	for _, first := range wrong {
		for _, second := range wrong {
			refuses(t, row(first+" "+second), 0)
			refuses(t, row("c1 c2 r1 "+first+" c3 "+second), 3)
			refuses(t, row("c1 "+first+" r1 c1 r1"), 1)
			refuses(t, row("x0 x8 "+first+" "+second+" c0 r0"), 2)
		}
	}
	refuses(t, row("c0 c0 r0 r0"), 1)
	refuses(t, row("c0 r0 r0 c0 c0"), 2)
}

// R5: events behind the list's length are not read.
func TestOpsReadNoSpareRoom(t *testing.T) {
	l := row("c0 c1 r1 r0 r0")
	ops, why, at := hist.Ops(l[:3])
	if shows(ops) != "0:0- 1:1-2" || why != api.OK || at != 0 {
		t.Errorf("Ops of three events with room behind them: %s, %v at %d", shows(ops), why, at)
	}
	refuses(t, l, 4)
	ops, _, _ = hist.Ops(l[:4])
	if !slices.EqualFunc(ops, []hist.Op{{Thread: 0, Call: written(0), Result: came(3), To: 3}, {Thread: 1, Call: written(1), Result: came(2), From: 1, To: 2}}, same) {
		t.Errorf("Ops of four events with room behind them: %v", ops)
	}
}
