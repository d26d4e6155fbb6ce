package lin_test

import (
	"fmt"
	"math"
	"slices"
	"testing"

	"warren/api"
	"warren/hist"
	"warren/lin"
)

// few answers three calls that Returned, the last behind the others, and a pending one, number 2.
func few() []hist.Op {
	return []hist.Op{
		did(0, 3, mkdir("/a"), api.OK),
		did(1, 4, mkdir("/a"), api.Exists),
		waits(2, mkdir("/a/b")),
		did(5, 6, info("/q"), api.NoEnt),
	}
}

// P19.1: orders that fit, with the pending call or without it.
func TestFits(t *testing.T) {
	for _, order := range [][]int{{0, 1, 3}, {0, 1, 2, 3}, {0, 2, 1, 3}, {0, 1, 3, 2}, {2, 0, 1, 3}} {
		fits(t, true, few(), order...)
	}
	// The Model answers something else.
	for _, order := range [][]int{{1, 0, 3}, {1, 0, 2, 3}, {1, 2, 0, 3}, {2, 1, 0, 3}} {
		fits(t, false, few(), order...)
	}
}

// P19.1: a number that is none, ahead of the others, among them and behind them.
func TestFitsOfNumbersThatAreNone(t *testing.T) {
	for _, n := range []int{-1, 4, 5, -3, 1000, math.MaxInt, math.MinInt} {
		for at := range 4 {
			fits(t, false, few(), slices.Insert([]int{0, 1, 3}, at, n)...)
			fits(t, false, few(), slices.Insert([]int{0, 1, 2, 3}, at, n)...)
		}
		for at := range 3 {
			order := []int{0, 1, 3}
			order[at] = n
			fits(t, false, few(), order...)
		}
		fits(t, false, few(), n)
		fits(t, false, nil, n)
	}
}

// P19.1: a list's spare room holds no calls.
func TestFitsOfSpareRoom(t *testing.T) {
	l := few()[:3]
	fits(t, true, l, 0, 1)
	fits(t, false, l, 0, 1, 3)
	fits(t, true, l, []int{0, 1, 3, 7}[:2]...)
}

// P19.1: a number that is there twice, be it of a call that would be answered the same again.
func TestFitsOfNumbersThatComeTwice(t *testing.T) {
	for _, order := range [][]int{{0, 0, 1, 3}, {0, 1, 1, 3}, {0, 1, 3, 3}, {0, 1, 3, 0}, {0, 1, 2, 2, 3}, {2, 0, 1, 2, 3}, {0, 1, 3, 1}, {3, 3}} {
		fits(t, false, few(), order...)
	}
	l := []hist.Op{waits(0, info("/")), did(0, 9, info("/q"), api.NoEnt)}
	fits(t, true, l, 0, 1)
	for _, order := range [][]int{{0, 0, 1}, {0, 1, 0}, {0, 1, 1}, {1, 1}, {0, 0}} {
		fits(t, false, l, order...)
	}
}

// P19.1: one that Returned is left out.
func TestFitsOfOrdersThatLeaveOut(t *testing.T) {
	for _, order := range [][]int{nil, {}, {0}, {0, 1}, {0, 2}, {0, 1, 2}, {0, 3}, {3}, {2}, {1, 3}} {
		fits(t, false, few(), order...)
	}
}

// P19.1: the empty order is one where nothing Returned.
func TestFitsOfNoOrder(t *testing.T) {
	for _, order := range [][]int{nil, {}, []int{0, 1}[:0]} {
		fits(t, true, nil, order...)
		fits(t, true, []hist.Op{waits(0, mkdir("/a")), waits(5, mkdir("/a"))}, order...)
		fits(t, false, []hist.Op{waits(0, mkdir("/a")), did(5, 6, info("/q"), api.NoEnt)}, order...)
	}
}

// P19.1: a call behind what it is Before, right behind it and further away; all would be answered the same.
func TestFitsOfCallsBehindWhatTheyAreBefore(t *testing.T) {
	for _, order := range [][]int{{0, 3, 1}, {3, 0, 1}, {0, 3, 2, 1}, {3, 2, 0, 1}, {0, 2, 3, 1}} {
		fits(t, false, few(), order...)
	}
	q := info("/q")
	l := []hist.Op{did(0, 9, q, api.NoEnt), did(1, 2, q, api.NoEnt), did(3, 4, q, api.NoEnt), waits(5, q)}
	for _, order := range [][]int{{0, 1, 2}, {1, 0, 2}, {1, 2, 0}, {0, 1, 2, 3}, {1, 2, 3, 0}, {1, 2, 0, 3}} {
		fits(t, true, l, order...)
	}
	for _, order := range [][]int{{2, 1, 0}, {0, 2, 1}, {2, 0, 1}, {3, 0, 1, 2}, {1, 3, 2, 0}, {1, 3, 0, 2}, {0, 1, 3, 2}} {
		fits(t, false, l, order...)
	}
}

// P19.1: a pending call that is in no order needs no place; those that were Called behind it do not either.
func TestFitsOfPendingCallsAnywhere(t *testing.T) {
	q := info("/q")
	l := []hist.Op{waits(0, q), waits(9, q), did(4, 5, q, api.NoEnt)}
	for _, order := range [][]int{{2}, {0, 2}, {2, 0}, {2, 1}, {0, 2, 1}, {2, 1, 0}, {2, 0, 1}} {
		fits(t, true, l, order...)
	}
	for _, order := range [][]int{{1, 2}, {0, 1, 2}, {1, 0, 2}, {1, 2, 0}} {
		fits(t, false, l, order...)
	}
}

// R1: long lists end soon.
func TestFitsOfLongLists(t *testing.T) {
	const calls = 50000
	var l []hist.Op
	var order []int
	for k := range calls {
		o := did(k, k+5, info("/q"), api.NoEnt)
		if k%7 == 0 {
			o.To = -1
		}
		l, order = append(l, o), append(order, k)
	}
	fits(t, true, l, order...)
	if lin.Fits(size, people(), l, order[:calls-2]) || lin.Fits(size, people(), l, append(slices.Clone(order), 0)) {
		t.Error("Fits of a long order that leaves one out, or has one twice: true")
	}
	order[100], order[101] = order[101], order[100]
	fits(t, true, l, order...)
	order[102], order[300] = order[300], order[102]
	if lin.Fits(size, people(), l, order) {
		t.Error("Fits of a long order in which one comes too soon: true")
	}
}

// R1: eight calls at once, of which the least order fits last, or none does.
func TestOrdersThatAreLookedForLong(t *testing.T) {
	l := []hist.Op{}
	for k := range 8 {
		l = append(l, waits(k, mkdir(fmt.Sprint("/", k))))
	}
	l[3] = did(3, 9, list("/"), api.NoEnt)
	none(t, l)
	l[3] = came(3, 9, list("/"), api.Result{Names: []string{"7"}})
	tells(t, l, 7, 3)
	for k := range l {
		l[k] = did(k, 100, mkdir("/7/6/5/4/3/2/1/0"[:2*(8-k)]), api.OK)
	}
	tells(t, l, 7, 6, 5, 4, 3, 2, 1, 0)
}
