package hist_test

import (
	"math/rand"
	"slices"
	"testing"

	"warren/api"
	"warren/hist"
)

// none tells, by the chapter's words, whether the event at this place may not be. It counts what its thread did ahead of it.
func none(l []api.Event, at int) bool {
	e := l[at]
	calls, returns := 0, 0
	for _, d := range l[:at] {
		if d.Thread == e.Thread && d.Kind == api.Called {
			calls++
		}
		if d.Thread == e.Thread && d.Kind == api.Returned {
			returns++
		}
	}
	fine := e.Thread >= 0 && e.Thread <= 7
	switch e.Kind {
	case 3:
		return false
	case 1:
		return !fine || calls > returns
	case 2:
		return !fine || calls == returns
	}
	return true
}

// told is the chapter's words of Ops.
func told(l []api.Event) ([]hist.Op, api.Errno, int) {
	var ops []hist.Op
	for at := range l {
		if none(l, at) {
			return nil, api.ErrForm, at
		}
	}
	for from, e := range l {
		if e.Kind != 1 {
			continue
		}
		o := hist.Op{Thread: e.Thread, Call: e.Call, From: from, To: -1}
		ends := func(d api.Event) bool { return d.Kind == 2 && d.Thread == e.Thread }
		if behind := slices.IndexFunc(l[from:], ends); behind >= 0 {
			o.To = from + behind
			o.Result = l[o.To].Result
		}
		ops = append(ops, o)
	}
	return ops, api.OK, 0
}

// toldBefore is the chapter's words of Before, with its second example.
func toldBefore(a, b hist.Op) bool {
	if same(a, b) {
		return false
	}
	return a.To > -1 && b.From > a.To
}

// toldSerial is the chapter's words of Serial.
func toldSerial(l []hist.Op) bool {
	for k, b := range l {
		for _, a := range l[:k] {
			if !toldBefore(a, b) && !toldBefore(b, a) {
				return false
			}
		}
	}
	return true
}

// holds lets Ops and Serial answer what the chapter's words say, and answers the refusal.
func holds(t *testing.T, l []api.Event) api.Errno {
	t.Helper()
	ops, why, at := hist.Ops(l)
	want, wantWhy, wantAt := told(l)
	if why != wantWhy || at != wantAt || !slices.EqualFunc(ops, want, same) {
		t.Fatalf("Ops(%v): %s, %v at %d, want %s, %v at %d", l, shows(ops), why, at, shows(want), wantWhy, wantAt)
	}
	if got := hist.Serial(ops); got != toldSerial(ops) {
		t.Fatalf("Serial(%s): %v", shows(ops), got)
	}
	return why
}

// P18.1: all rows of up to four events of three threads, of each Kind, and some that may not be.
func TestOpsOfShortRows(t *testing.T) {
	kinds := []int{api.Called, api.Returned, api.Refused, 0}
	var rows func(l []api.Event)
	rows = func(l []api.Event) {
		holds(t, l)
		if len(l) == 4 {
			return
		}
		n := len(l)
		for _, kind := range kinds {
			for _, thread := range []int{0, 1, 8} {
				rows(append(l[:n:n], api.Event{Kind: kind, Thread: thread, Call: written(n), Result: came(n)}))
			}
		}
	}
	rows(nil)
}

// P18.1: all rows of up to eight events of two threads that may be.
func TestOpsOfRowsThatMayBe(t *testing.T) {
	counted := 0
	var rows func(l []api.Event)
	rows = func(l []api.Event) {
		if holds(t, l) != api.OK {
			return
		}
		counted++
		if n := len(l); n < 8 {
			for thread := range 2 {
				rows(append(l[:n:n], called(thread, n)))
				rows(append(l[:n:n], returned(thread, n)))
			}
		}
	}
	rows(nil)
	// With each event one of two threads turns.
	if counted != 1<<9-1 {
		t.Errorf("%d rows may be", counted)
	}
}

// some answers so many events that may be, now and then a Refused one, of so many threads.
func some(r *rand.Rand, size, threads int) []api.Event {
	var l []api.Event
	busy := make([]bool, threads)
	for at := range size {
		thread := r.Intn(threads)
		switch {
		case r.Intn(6) == 0:
			l = append(l, refused(r.Intn(12)-2))
			continue
		case busy[thread]:
			l = append(l, returned(thread, at))
		default:
			l = append(l, called(thread, at))
		}
		busy[thread] = !busy[thread]
	}
	return l
}

// P18.1, P18.2: long rows of events, some of which are spoilt.
func TestOpsOfLongRows(t *testing.T) {
	r := rand.New(rand.NewSource(18))
	seen := map[api.Errno]int{}
	for range 3000 {
		l := some(r, 1+r.Intn(60), 1+r.Intn(8))
		if r.Intn(2) == 0 {
			e := &l[r.Intn(len(l))]
			e.Kind = []int{0, 1, 2, 3, 4, -1}[r.Intn(6)]
			e.Thread = r.Intn(11) - 1
		}
		seen[holds(t, l)]++
	}
	if seen[api.OK] < 500 || seen[api.ErrForm] < 500 {
		t.Errorf("the rows did not come out in both ways: %v", seen)
	}
}

// P18.2: Before and Serial of each two and each three calls of two threads and a few places, be they such as Ops answers or not.
func TestOrderOfFewCalls(t *testing.T) {
	var all []hist.Op
	for from := range 4 {
		for to := -2; to < 5; to++ {
			all = append(all, span(from, to), hist.Op{Thread: 1, From: from, To: to})
		}
	}
	for _, a := range all {
		for _, b := range all {
			before(t, a, b, toldBefore(a, b))
			for _, c := range all {
				if l := []hist.Op{a, b, c}; hist.Serial(l) != toldSerial(l) {
					t.Fatalf("Serial(%s): %v", shows(l), !toldSerial(l))
				}
			}
		}
	}
}

// P18.2: Serial of lists of calls one behind the other, in any order, as they are and with one that is turned.
func TestSerialOfManyCalls(t *testing.T) {
	r := rand.New(rand.NewSource(19))
	seen := map[bool]int{}
	for range 4000 {
		l := make([]hist.Op, 1+r.Intn(12))
		at := 0
		for i := range l {
			from := at + r.Intn(3)
			l[i] = span(from, from+r.Intn(3))
			at = l[i].To + 1
		}
		if r.Intn(3) == 0 {
			l[len(l)-1].To = -1
		}
		if r.Intn(2) == 0 {
			o := &l[r.Intn(len(l))]
			o.From, o.To = o.From+r.Intn(7)-3, o.To+r.Intn(7)-3
		}
		r.Shuffle(len(l), func(i, k int) { l[i], l[k] = l[k], l[i] })
		want := toldSerial(l)
		seen[want]++
		if hist.Serial(l) != want {
			t.Fatalf("Serial(%s): %v", shows(l), !want)
		}
	}
	if seen[true] < 500 || seen[false] < 500 {
		t.Errorf("the lists did not come out in both ways: %v", seen)
	}
}

// R1: long rows end soon.
func TestLongRowsEnd(t *testing.T) {
	var l []api.Event
	for at := range 100000 {
		l = append(l, api.Event{Kind: api.Called, Thread: at % 8}, api.Event{Kind: api.Returned, Thread: at % 8, Result: api.Result{N: at}})
	}
	ops, why, at := hist.Ops(l)
	if len(ops) != 100000 || why != api.OK || at != 0 || ops[99999].Result.N != 99999 || ops[99999].To != 199999 {
		t.Fatalf("Ops of a long row: %d calls, %v at %d", len(ops), why, at)
	}
	if !hist.Serial(ops) {
		t.Error("Serial of a long row: false")
	}
	slices.Reverse(ops)
	ops[50000].To = ops[49999].From
	if hist.Serial(ops) {
		t.Error("Serial of a long row of which two are at once: true")
	}
	refuses(t, append(l, returned(0, 0)), 200000)
}

// R4: what is asked twice is answered alike.
func TestAnswersHangOnWhatIsGiven(t *testing.T) {
	r := rand.New(rand.NewSource(20))
	for range 200 {
		l := some(r, r.Intn(40), 8)
		ops, why, at := hist.Ops(l)
		again, whyAgain, atAgain := hist.Ops(slices.Clip(l))
		if why != whyAgain || at != atAgain || !slices.EqualFunc(ops, again, same) || hist.Serial(ops) != hist.Serial(again) {
			t.Fatalf("Ops asked twice: %s, %s", shows(ops), shows(again))
		}
	}
}
