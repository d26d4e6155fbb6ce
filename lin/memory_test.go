package lin_test

import (
	"fmt"
	"slices"
	"testing"

	"warren/api"
	"warren/hist"
	"warren/lin"
)

// roomy answers calls whose lists have room behind them, in a list that has.
func roomy() []hist.Op {
	l := []hist.Op{
		of(1, came(0, 9, list("/"), api.Result{Names: []string{"d", "e", "room"}[:2]})),
		of(0, came(0, 9, mkdir("/e"), api.Result{})),
		of(0, came(0, 9, open("/d", api.ForRead|api.ForWrite|api.Make), api.Result{})),
		of(0, came(0, 9, write(0, "abc"), api.Result{N: 3})),
		of(1, came(0, 9, open("/d", api.ForRead), api.Result{})),
		of(1, came(0, 9, read(0, 2), api.Result{Data: []byte("abroom")[:2]})),
		of(2, waits(0, write(0, "pending"))),
		did(77, 78, mkdir("/room"), api.OK),
	}
	l[3].Call.Data = append(l[3].Call.Data, "room"...)[:3]
	return l[:7]
}

// all answers all that the calls hold, the room behind their lists included.
func all(l []hist.Op) string {
	s := ""
	for _, o := range l[:cap(l)] {
		c, r := o.Call, o.Result
		s += fmt.Sprintf("%v %q %q %q;", o, c.Data[:cap(c.Data)], r.Data[:cap(r.Data)], r.Names[:cap(r.Names)])
	}
	return s
}

// ask asks all that can be asked of the calls.
func ask(c api.Config, who []api.Cred, l []hist.Op, order []int) {
	_, _ = lin.Check(c, who, l)
	_, _, _ = lin.Order(c, who, l)
	_ = lin.Fits(c, who, l, order)
}

// R2: what is handed in is not changed, its room neither, whether there is an order that fits, none, or a refusal.
func TestNothingIsChanged(t *testing.T) {
	l, was := roomy(), all(roomy())
	who := append(people(), api.Cred{Uid: 9})[:3]
	for _, order := range [][]int{[]int{1, 2, 0, 3, 4, 5, 8, 9}[:6], []int{5, 4, 3, 2, 1, 0, 8}[:6], {9, 9}, {}, nil} {
		whole := slices.Clone(order[:cap(order)])
		ask(size, who, l, order)
		ask(size, who, l[:4], order)
		ask(size, who[:1], l, order)
		ask(size, who[:0], l, order)
		ask(api.Config{}, who, l, order)
		ask(size, who, slices.Repeat(l, 3), order)
		if !slices.Equal(whole, order[:cap(order)]) {
			t.Errorf("an order was changed: %v, was %v", order[:cap(order)], whole)
		}
	}
	if all(l) != was {
		t.Errorf("calls were changed: %s, were %s", all(l), was)
	}
	if !slices.Equal(who[:4], append(people(), api.Cred{Uid: 9})) {
		t.Errorf("creds were changed: %v", who[:4])
	}
	tells(t, l, 1, 2, 0, 3, 4, 5)
}

// R2: nothing of what was asked for once is in what is asked for later.
func TestNothingIsKept(t *testing.T) {
	l, who := roomy(), people()
	order, _, _ := lin.Order(size, who, l)
	for k := range l {
		l[k].Call.Data, l[k].Result.Data = nil, nil
		l[k] = hist.Op{}
	}
	who[0].Uid = 7
	if !slices.Equal(order, []int{1, 2, 0, 3, 4, 5}) {
		t.Errorf("an order that was answered is another one now: %v", order)
	}
	tells(t, roomy(), 1, 2, 0, 3, 4, 5)
	fits(t, true, roomy(), 1, 2, 0, 3, 4, 5)
}

// R2: an answer is new memory, its room too.
func TestAnswersAreNew(t *testing.T) {
	l := roomy()
	a, _, _ := lin.Order(size, people(), l)
	b, _, _ := lin.Order(size, people(), l)
	clear(a[:cap(a)])
	_ = append(a, 7, 7, 7)
	if !slices.Equal(b, []int{1, 2, 0, 3, 4, 5}) {
		t.Errorf("an order is another one's memory: %v", b)
	}
	tells(t, l, 1, 2, 0, 3, 4, 5)
}

// R2: calls may share their lists with one another.
func TestCallsThatShare(t *testing.T) {
	data := []byte("abcd")
	names := []string{"f", "g"}
	l := []hist.Op{
		came(0, 1, open("/f", api.ForRead|api.ForWrite|api.Make), api.Result{}),
		came(2, 3, api.Call{Op: api.Write, Data: data}, api.Result{N: 4}),
		came(4, 5, api.Call{Op: api.Write, Data: data[:2]}, api.Result{N: 2}),
		came(6, 7, api.Call{Op: api.Seek}, api.Result{}),
		came(8, 9, read(0, 4), api.Result{Data: data}),
		came(10, 11, list("/"), api.Result{Names: names[:1]}),
		came(12, 13, mkdir("/g"), api.Result{}),
		came(14, 15, list("/"), api.Result{Names: names}),
	}
	tells(t, l, 0, 1, 2, 3, 4, 5, 6, 7)
	if string(data) != "abcd" || names[1] != "g" {
		t.Errorf("lists of calls were changed: %s, %v", data, names)
	}
}

// R4: what is asked twice is answered alike, whatever was asked between; nil and empty lists are alike.
func TestAnswersHangOnWhatIsGiven(t *testing.T) {
	want := fmt.Sprint(lin.Order(size, people(), roomy()))
	for range 20 {
		ask(size, people(), eight(5), []int{4, 3, 2, 1, 0})
		if got := fmt.Sprint(lin.Order(size, people(), slices.Clip(roomy()))); got != want {
			t.Fatalf("Order asked again: %s, was %s", got, want)
		}
	}
	l := roomy()
	for k := range l {
		if len(l[k].Call.Data) == 0 {
			l[k].Call.Data = []byte{}
		}
		if len(l[k].Result.Names) == 0 {
			l[k].Result.Names = []string{}
		}
	}
	tells(t, l, 1, 2, 0, 3, 4, 5)
}
