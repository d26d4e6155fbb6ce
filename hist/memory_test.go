package hist_test

import (
	"fmt"
	"slices"
	"testing"
	"unsafe"

	"warren/api"
	"warren/hist"
)

// spoil overwrites all lists of the call and the result, their spare room too.
func spoil(c api.Call, r api.Result) {
	fill(c.Data)
	fill(r.Data)
	names := r.Names[:cap(r.Names)]
	for i := range names {
		names[i] = "spoilt"
	}
}

func fill(b []byte) {
	b = b[:cap(b)]
	for i := range b {
		b[i] = 99
	}
}

// roomy answers the number's call and result in lists with room behind them.
func roomy(n int) (api.Call, api.Result) {
	c, r := written(n), came(n)
	c.Data = append(c.Data, "room"...)[:2]
	r.Data = append(r.Data, "room"...)[:2]
	r.Names = append(r.Names, "room", "more")[:2]
	return c, r
}

// events answers two calls at once, one of which Returned, and one behind them, in lists with room behind them.
func events() []api.Event {
	l := append(row("c0 c1 x1 r1 c1"), called(5, 5))[:5]
	for at := range l {
		c, r := roomy(at)
		if l[at].Kind != api.Returned {
			l[at].Call = c
		} else {
			l[at].Result = r
		}
	}
	return l
}

// print answers all that the events hold, the room behind their lists included.
func print(l []api.Event) string {
	s := ""
	for _, e := range l[:cap(l)] {
		c, r := e.Call, e.Result
		s += fmt.Sprintf("%v %q %q %q;", e, c.Data[:cap(c.Data)], r.Data[:cap(r.Data)], r.Names[:cap(r.Names)])
	}
	return s
}

// R2: Ops changes nothing of the events, whether it refuses them or not.
func TestOpsChangesNothing(t *testing.T) {
	l := events()
	was := print(l)
	for n := range len(l) + 1 {
		_, _, _ = hist.Ops(l[:n])
	}
	_, why, at := hist.Ops(l[1:])
	_, _, _ = hist.Ops(l[3:])
	if print(l) != was || why != api.OK || at != 0 {
		t.Errorf("Ops changed its events: %s, were %s", print(l), was)
	}
}

// R2: the events are not the calls' any more when they are answered, nor the calls theirs.
func TestOpsKeepsNothing(t *testing.T) {
	want, _, _ := hist.Ops(events())
	l := events()
	ops, _, _ := hist.Ops(l)
	for at := range l {
		spoil(l[at].Call, l[at].Result)
		l[at] = api.Event{}
	}
	if len(ops) != 3 || !slices.EqualFunc(ops, want, same) {
		t.Errorf("Ops kept a piece of its events: %v", ops)
	}
	l = events()
	was := print(l)
	ops, _, _ = hist.Ops(l)
	for i := range ops {
		spoil(ops[i].Call, ops[i].Result)
	}
	clear(ops[:cap(ops)])
	if print(l) != was {
		t.Errorf("Ops answered a piece of its events: %s", print(l))
	}
}

// R2: the texts of an answer are new too.
func TestOpsAnswersNewTexts(t *testing.T) {
	l := events()
	ops, _, _ := hist.Ops(l)
	e, r, o := l[1].Call, l[3].Result, ops[1]
	for _, p := range [][2]string{{e.Path, o.Call.Path}, {e.To, o.Call.To}, {r.Names[0], o.Result.Names[0]}, {r.Names[1], o.Result.Names[1]}} {
		if p[0] != p[1] || unsafe.StringData(p[0]) == unsafe.StringData(p[1]) {
			t.Errorf("Ops answered a text that is not new: %q of %q", p[1], p[0])
		}
	}
}

// R2: events that share their lists with each other are answered as calls that share none.
func TestOpsSharesNothing(t *testing.T) {
	for spoilt := range 4 {
		c, r := roomy(3)
		r.Data = c.Data
		var l []api.Event
		for range 4 {
			l = append(l, api.Event{Kind: api.Called, Thread: 2, Call: c}, api.Event{Kind: api.Returned, Thread: 2, Result: r})
		}
		ops, _, _ := hist.Ops(l)
		again, _, _ := hist.Ops(l)
		spoil(ops[spoilt].Call, ops[spoilt].Result)
		_ = append(ops[spoilt].Call.Data, "more and more of it"...)
		_ = append(ops[spoilt].Result.Names, "more", "of", "it")
		for k, o := range append(slices.Delete(ops, spoilt, spoilt+1), again...) {
			if !sameCall(o.Call, c) || !sameResult(o.Result, r) {
				t.Errorf("of %d: lists of another call are its too: %v, %v", k, o.Call, o.Result)
			}
		}
	}
}

// R2: of one call the Data that it was told is not the Data that it answered.
func TestOpsPartsDataOfOneCall(t *testing.T) {
	data := []byte("data and room")[:4]
	l := []api.Event{{Kind: api.Called, Call: api.Call{Op: api.Write, Data: data}}, {Kind: api.Returned, Result: api.Result{Data: data}}}
	ops, _, _ := hist.Ops(l)
	fill(ops[0].Call.Data)
	if string(ops[0].Result.Data) != "data" {
		t.Errorf("Data of the call is that of its result: %q", ops[0].Result.Data)
	}
	ops, _, _ = hist.Ops(l)
	fill(ops[0].Result.Data)
	if string(ops[0].Call.Data) != "data" || string(data[:13]) != "data and room" {
		t.Errorf("Data of the result is that of its call: %q, %q", ops[0].Call.Data, data[:13])
	}
}

// R2: Serial, Before and Same change nothing, not the order of a list either.
func TestAskingChangesNothing(t *testing.T) {
	l := []hist.Op{span(4, 5), span(2, 3), span(8, -1), span(0, 1), span(6, 7), span(1, 2)}
	was := slices.Clone(l)
	for n := range len(l) + 1 {
		_ = hist.Serial(l[:n])
	}
	for _, a := range l {
		for _, b := range l {
			_ = hist.Before(a, b)
		}
	}
	if !slices.EqualFunc(l, was, same) {
		t.Errorf("Serial changed its list: %s, was %s", shows(l), shows(was))
	}
	_, a := roomy(1)
	_, b := roomy(2)
	told := fmt.Sprintf("%q %q", a.Names[:4], a.Data[:6])
	for range 2 {
		_, _ = hist.Same(a, b), hist.Same(a, a)
	}
	if fmt.Sprintf("%q %q", a.Names[:4], a.Data[:6]) != told || !sameResult(a, came(1)) || !sameResult(b, came(2)) {
		t.Errorf("Same changed its results: %v, %v", a, b)
	}
}
