package grace_test

import (
	"math"
	"slices"
	"testing"

	"warren/api"
	"warren/grace"
)

func made(t *testing.T, readers int) *grace.Grace {
	t.Helper()
	g, why := grace.New(readers)
	if g == nil || why != api.OK {
		t.Fatalf("New(%d): %v, %v", readers, g, why)
	}
	return g
}

func enter(t *testing.T, g *grace.Grace, readers ...int) {
	t.Helper()
	for _, r := range readers {
		if why := g.Enter(r); why != api.OK {
			t.Fatalf("Enter(%d): %v", r, why)
		}
	}
}

func leave(t *testing.T, g *grace.Grace, readers ...int) {
	t.Helper()
	for _, r := range readers {
		if why := g.Leave(r); why != api.OK {
			t.Fatalf("Leave(%d): %v", r, why)
		}
	}
}

// deferred asks Defer, which must take the id and answer whether nobody is inside.
func deferred(t *testing.T, g *grace.Grace, id int64, nobody bool) {
	t.Helper()
	if got, why := g.Defer(id); got != nobody || why != api.OK {
		t.Fatalf("Defer(%d): %v, %v, want %v", id, got, why, nobody)
	}
}

// is holds a list of an answer against what it must be; nil and empty are the same.
func is[T comparable](t *testing.T, what string, got []T, want ...T) {
	t.Helper()
	if !slices.Equal(got, want) {
		t.Errorf("%s: %v, want %v", what, got, want)
	}
}

// P4.1: how many readers there may be; of a new one nobody is inside and nothing waits.
func TestNewTakesOneToMaxReaders(t *testing.T) {
	for n := 1; n <= api.MaxReaders; n++ {
		g := made(t, n)
		is(t, "Inside", g.Inside())
		is(t, "Waiting", g.Waiting())
		is(t, "Blocks", g.Blocks(0))
		is(t, "Poll", g.Poll())
	}
	for _, n := range []int{0, -1, -2, -api.MaxReaders, api.MaxReaders + 1, 64, 1 << 32, 1<<32 + 1, math.MaxInt, math.MinInt, math.MinInt + 1} {
		if g, why := grace.New(n); g != nil || why != api.ErrArg {
			t.Errorf("New(%d): %v, %v", n, g, why)
		}
	}
}

// P4.1: the readers are 0 to readers - 1; of no reader Enter and Leave are refused, and turn nothing.
func TestNoSuchReader(t *testing.T) {
	for n := 1; n <= api.MaxReaders; n++ {
		g := made(t, n)
		enter(t, g, n-1)
		deferred(t, g, 5, false)
		for _, r := range []int{-1, -2, -n, n, n + 1, api.MaxReaders, api.MaxReaders + 1, 1 << 32, math.MaxInt, math.MinInt} {
			if why := g.Enter(r); why != api.ErrArg {
				t.Errorf("%d readers: Enter(%d): %v", n, r, why)
			}
			// Told ahead of ErrPast, since no such reader is inside either.
			if why := g.Leave(r); why != api.ErrArg {
				t.Errorf("%d readers: Leave(%d): %v", n, r, why)
			}
		}
		is(t, "Inside", g.Inside(), n-1)
		is(t, "Blocks", g.Blocks(5), n-1)
		leave(t, g, n-1)
		is(t, "Poll", g.Poll(), 5)
	}
}

// P4.1: Leave of one that is not inside: that never was, that has left, that another one is inside for.
func TestLeaveOfOneOutside(t *testing.T) {
	g := made(t, 2)
	outside := func(r int) {
		t.Helper()
		for range 3 {
			if why := g.Leave(r); why != api.ErrPast {
				t.Errorf("Leave(%d): %v", r, why)
			}
		}
	}
	outside(0)
	outside(1)
	enter(t, g, 1)
	outside(0)
	leave(t, g, 1)
	outside(1)
	enter(t, g, 1, 1)
	leave(t, g, 1, 1)
	outside(1)
	// One Enter is enough, however often it was refused.
	enter(t, g, 0)
	is(t, "Inside", g.Inside(), 0)
	leave(t, g, 0)
	outside(0)
}

// P4.1: sections within one another, deep ones too: as many Leaves as Enters.
func TestSectionsWithinOneAnother(t *testing.T) {
	for _, deep := range []int{1, 2, 3, 255, 256, 257, 1 << 16, 1<<16 + 1} {
		g := made(t, 2)
		for range deep {
			enter(t, g, 1)
		}
		deferred(t, g, 3, false)
		for left := deep; left > 0; left-- {
			if left < 4 || left%256 < 2 {
				is(t, "Inside", g.Inside(), 1)
				is(t, "Blocks", g.Blocks(3), 1)
				is(t, "Poll", g.Poll())
			}
			leave(t, g, 1)
		}
		is(t, "Inside", g.Inside())
		is(t, "Blocks", g.Blocks(3))
		is(t, "Poll", g.Poll(), 3)
		if why := g.Leave(1); why != api.ErrPast {
			t.Errorf("%d sections, one more Leave: %v", deep, why)
		}
	}
}

// P4.2: a section that is begun or ended behind Defer, within the outermost, changes nothing; the outermost counts.
func TestInnerSectionsDoNotRelease(t *testing.T) {
	g := made(t, 1)
	enter(t, g, 0)
	deferred(t, g, 1, false)
	enter(t, g, 0)
	deferred(t, g, 2, false)
	leave(t, g, 0)
	is(t, "Blocks(1)", g.Blocks(1), 0)
	is(t, "Blocks(2)", g.Blocks(2), 0)
	enter(t, g, 0)
	leave(t, g, 0)
	is(t, "Poll", g.Poll())
	leave(t, g, 0)
	is(t, "Poll", g.Poll(), 1, 2)
}

// P4.1: Defer tells whether nobody is inside; what waits for nobody still waits for Poll.
func TestDeferTellsWhetherNobodyIsInside(t *testing.T) {
	for n := 1; n <= api.MaxReaders; n++ {
		for r := range n {
			g := made(t, n)
			deferred(t, g, 1, true)
			is(t, "Waiting", g.Waiting(), 1)
			enter(t, g, r)
			deferred(t, g, 2, false)
			is(t, "Waiting", g.Waiting(), 1, 2)
			leave(t, g, r)
			deferred(t, g, 3, true)
			is(t, "Waiting", g.Waiting(), 1, 2, 3)
			is(t, "Poll", g.Poll(), 1, 2, 3)
			is(t, "Waiting", g.Waiting())
		}
	}
}

// P4.2: an id waits for those that were inside at its Defer, not for those that came since; every set of four readers.
func TestWaitsForThoseInsideAtDefer(t *testing.T) {
	const n = 4
	for set := range 1 << n {
		g := made(t, n)
		var in, out []int
		for r := range n {
			if set>>r&1 == 1 {
				in = append(in, r)
			} else {
				out = append(out, r)
			}
		}
		enter(t, g, in...)
		deferred(t, g, 9, len(in) == 0)
		enter(t, g, out...)
		is(t, "Inside", g.Inside(), 0, 1, 2, 3)
		for i, r := range in {
			is(t, "Blocks", g.Blocks(9), in[i:]...)
			is(t, "Poll", g.Poll())
			leave(t, g, r)
		}
		is(t, "Blocks", g.Blocks(9))
		is(t, "Inside", g.Inside(), out...)
		is(t, "Poll", g.Poll(), 9)
	}
}

// P4.2, example 1: a reader that leaves and enters again between Defer and Poll does not block; for what is deferred since it does.
func TestLeavesAndEntersAgain(t *testing.T) {
	g := made(t, 2)
	enter(t, g, 0)
	deferred(t, g, 7, false)
	leave(t, g, 0)
	enter(t, g, 0)
	deferred(t, g, 8, false)
	is(t, "Inside", g.Inside(), 0)
	is(t, "Blocks(7)", g.Blocks(7))
	is(t, "Blocks(8)", g.Blocks(8), 0)
	is(t, "Poll", g.Poll(), 7)
	is(t, "Waiting", g.Waiting(), 8)
	leave(t, g, 0)
	enter(t, g, 0, 0)
	is(t, "Poll", g.Poll(), 8)
}

// P4.2: Poll may pass over some: those that it tells wait no longer, the others as they did.
func TestPollTellsThoseThatAreOver(t *testing.T) {
	g := made(t, 3)
	for r := range 3 {
		deferred(t, g, int64(10-r), r == 0)
		enter(t, g, r)
	}
	deferred(t, g, 30, false)
	is(t, "Waiting", g.Waiting(), 10, 9, 8, 30)
	leave(t, g, 0)
	is(t, "Poll", g.Poll(), 10, 9)
	is(t, "Poll again", g.Poll())
	is(t, "Waiting", g.Waiting(), 8, 30)
	is(t, "Blocks(8)", g.Blocks(8), 1)
	is(t, "Blocks(30)", g.Blocks(30), 1, 2)
	leave(t, g, 2)
	is(t, "Poll", g.Poll())
	leave(t, g, 1)
	is(t, "Poll", g.Poll(), 8, 30)
	is(t, "Waiting", g.Waiting())
}

// P4.2, example 2: the second of two Polls is empty, unless something has come to its end between.
func TestPollTwice(t *testing.T) {
	g := made(t, 1)
	is(t, "nothing waits", g.Poll())
	for round := range int64(50) {
		deferred(t, g, round, true)
		is(t, "Poll", g.Poll(), round)
		is(t, "Poll again", g.Poll())
		is(t, "Blocks", g.Blocks(round))
		is(t, "Waiting", g.Waiting())
	}
}

// P4.1: MaxDefer ids may wait; one more is refused and turns nothing, whether somebody is inside or not.
func TestMaxDeferWait(t *testing.T) {
	for _, inside := range []bool{false, true} {
		g := made(t, 1)
		if inside {
			enter(t, g, 0)
		}
		var want []int64
		for id := range int64(api.MaxDefer) {
			deferred(t, g, 100-id, !inside)
			want = append(want, 100-id)
		}
		for _, id := range []int64{1, 100, 100, math.MinInt64} {
			if nobody, why := g.Defer(id); nobody || why != api.ErrFull {
				t.Errorf("one more: %v, %v", nobody, why)
			}
		}
		is(t, "Waiting", g.Waiting(), want...)
		is(t, "Blocks(1)", g.Blocks(1))
		if inside {
			is(t, "Poll", g.Poll())
			if _, why := g.Defer(1); why != api.ErrFull {
				t.Errorf("behind a Poll that told none: %v", why)
			}
			leave(t, g, 0)
			// What is over waits for Poll, and takes room as long as that.
			if _, why := g.Defer(1); why != api.ErrFull {
				t.Errorf("behind Leave: %v", why)
			}
		}
		is(t, "Poll", g.Poll(), want...)
		is(t, "Waiting", g.Waiting())
		deferred(t, g, 1, true)
		is(t, "Poll", g.Poll(), 1)
	}
}

// P4.1: there is room again for just as many as Poll told.
func TestRoomIsWhatPollTold(t *testing.T) {
	for first := range api.MaxDefer + 1 {
		g := made(t, 1)
		var over, rest []int64
		for id := range int64(api.MaxDefer) {
			if int(id) == first {
				enter(t, g, 0)
			}
			deferred(t, g, id, int(id) < first)
			if int(id) < first {
				over = append(over, id)
			} else {
				rest = append(rest, id)
			}
		}
		is(t, "Poll", g.Poll(), over...)
		for range first {
			deferred(t, g, -1, first == api.MaxDefer)
			rest = append(rest, -1)
		}
		if _, why := g.Defer(-1); why != api.ErrFull {
			t.Errorf("%d told: %v", first, why)
		}
		is(t, "Waiting", g.Waiting(), rest...)
	}
}

// P4.2: of an id that waits more than once each is told; Blocks speaks of the first.
func TestOneIdTwice(t *testing.T) {
	g := made(t, 3)
	enter(t, g, 2)
	deferred(t, g, 4, false)
	enter(t, g, 0)
	deferred(t, g, 5, false)
	deferred(t, g, 4, false)
	enter(t, g, 1)
	deferred(t, g, 4, false)
	is(t, "Waiting", g.Waiting(), 4, 5, 4, 4)
	is(t, "Blocks(4)", g.Blocks(4), 2)
	is(t, "Blocks(5)", g.Blocks(5), 0, 2)
	leave(t, g, 2)
	// The first one of that number waits for nobody any more, and waits for Poll.
	is(t, "Blocks(4)", g.Blocks(4))
	is(t, "Poll", g.Poll(), 4)
	is(t, "Waiting", g.Waiting(), 5, 4, 4)
	is(t, "Blocks(4)", g.Blocks(4), 0)
	leave(t, g, 0)
	is(t, "Poll", g.Poll(), 5, 4)
	is(t, "Blocks(4)", g.Blocks(4), 1)
	leave(t, g, 1)
	is(t, "Poll", g.Poll(), 4)
	is(t, "Poll again", g.Poll())
}

// P4.1: any number is an id, and they are held against each other whole.
func TestAnyNumberIsAnId(t *testing.T) {
	ids := []int64{0, -1, 1, math.MinInt64, math.MaxInt64, math.MinInt64 + 1, 1 << 32, 1<<32 + 1, -1 << 32, 1 << 8, 1 << 16, api.MaxDefer}
	g := made(t, api.MaxReaders)
	for i, id := range ids {
		if i < api.MaxReaders {
			enter(t, g, api.MaxReaders-1-i)
		}
		deferred(t, g, id, false)
	}
	is(t, "Waiting", g.Waiting(), ids...)
	for i, id := range ids {
		var want []int
		for r := max(0, api.MaxReaders-1-i); r < api.MaxReaders; r++ {
			want = append(want, r)
		}
		is(t, "Blocks", g.Blocks(id), want...)
	}
	for _, id := range []int64{2, -2, math.MaxInt64 - 1, math.MinInt64 + 2, 1<<32 + 2, -api.MaxDefer} {
		is(t, "Blocks of none", g.Blocks(id))
	}
	for r := range api.MaxReaders {
		leave(t, g, r)
	}
	is(t, "Poll", g.Poll(), ids...)
}

// P4.2: Blocks of an id that does not wait: that never did, or that Poll told.
func TestBlocksOfOneThatDoesNotWait(t *testing.T) {
	g := made(t, 2)
	enter(t, g, 0, 1)
	is(t, "nothing waits", g.Blocks(0))
	is(t, "nothing waits", g.Blocks(1))
	deferred(t, g, 1, false)
	is(t, "it never did", g.Blocks(0))
	is(t, "it does", g.Blocks(1), 0, 1)
	leave(t, g, 0, 1)
	is(t, "Poll", g.Poll(), 1)
	enter(t, g, 0)
	is(t, "it was told", g.Blocks(1))
}

// P4.2: Inside and Blocks are rising, in whichever order the readers enter.
func TestReadersAreRising(t *testing.T) {
	for _, order := range [][]int{{0, 1, 2, 3, 4, 5, 6, 7}, {7, 6, 5, 4, 3, 2, 1, 0}, {3, 7, 0, 5, 1, 6, 2, 4}, {4, 4, 0, 7, 0, 3, 3, 3}} {
		g := made(t, api.MaxReaders)
		var want []int
		for i, r := range order {
			enter(t, g, r)
			if !slices.Contains(want, r) {
				want = append(want, r)
			}
			slices.Sort(want)
			deferred(t, g, int64(i), false)
			is(t, "Inside", g.Inside(), want...)
			is(t, "Blocks", g.Blocks(int64(i)), want...)
		}
	}
}

// R2: what Inside, Waiting and Blocks answer is new memory each time, its spare room too, and later calls leave it alone.
func TestAnswersAreNewMemory(t *testing.T) {
	g := made(t, api.MaxReaders)
	for r := range api.MaxReaders {
		deferred(t, g, int64(r), r == 0)
		enter(t, g, r)
		fresh(t, "Inside", g.Inside)
		fresh(t, "Waiting", g.Waiting)
		fresh(t, "Blocks", func() []int { return g.Blocks(int64(r)) })
	}
	waiting, inside, blocks := g.Waiting(), g.Inside(), g.Blocks(7)
	for r := range api.MaxReaders {
		is(t, "Poll", g.Poll(), int64(r))
		leave(t, g, r)
		deferred(t, g, 50, r == api.MaxReaders-1)
	}
	is(t, "Inside's answer", inside, 0, 1, 2, 3, 4, 5, 6, 7)
	is(t, "Waiting's answer", waiting, 0, 1, 2, 3, 4, 5, 6, 7)
	is(t, "Blocks' answer", blocks, 0, 1, 2, 3, 4, 5, 6)
	is(t, "Poll", g.Poll(), 50, 50, 50, 50, 50, 50, 50, 50)
}

// R2: of Poll, which can't be asked twice: no answer is changed by a later call, or by one who writes another answer, and none is what is kept.
func TestPollAnswersNewMemory(t *testing.T) {
	for _, rising := range []bool{true, false} {
		g := made(t, 1)
		var answers, want [][]int64
		for round := range api.MaxDefer {
			n := round + 1
			if !rising {
				n = api.MaxDefer - round
			}
			for i := range n {
				deferred(t, g, int64(100*round+i), true)
			}
			enter(t, g, 0)
			for i := n; i < api.MaxDefer; i++ {
				deferred(t, g, 9, false)
			}
			x := g.Poll()
			answers, want = append(answers, x), append(want, slices.Clone(x))
			spoil(x[len(x):])
			is(t, "Waiting", g.Waiting(), slices.Repeat([]int64{9}, api.MaxDefer-n)...)
			leave(t, g, 0)
			is(t, "Poll", g.Poll(), slices.Repeat([]int64{9}, api.MaxDefer-n)...)
		}
		for i, x := range answers {
			is(t, "an elder answer of Poll", x, want[i]...)
			spoil(x)
		}
	}
}

// fresh asks twice and writes all of the one answer, which must be seen neither in the other one nor in a third.
func fresh[T int | int64](t *testing.T, what string, ask func() []T) {
	t.Helper()
	want := slices.Clone(ask())
	one, two := ask(), ask()
	spoil(one)
	if !slices.Equal(two, want) || !slices.Equal(ask(), want) || slices.Contains(two[:cap(two)], 77) {
		t.Errorf("%s: writing an answer changed another one or what is kept", what)
	}
}

func spoil[T int | int64](list []T) {
	list = list[:cap(list)]
	for i := range list {
		list[i] = 77
	}
}

// R4: what one keeps is no other's.
func TestEachForItself(t *testing.T) {
	one, two := made(t, 2), made(t, 2)
	enter(t, one, 0)
	deferred(t, two, 1, true)
	deferred(t, one, 2, false)
	is(t, "Inside", two.Inside())
	is(t, "Poll", two.Poll(), 1)
	is(t, "Waiting", one.Waiting(), 2)
	if why := two.Leave(0); why != api.ErrPast {
		t.Error(why)
	}
	is(t, "Blocks", one.Blocks(2), 0)
}

// The chapter's runs, and example 3.
func TestRuns(t *testing.T) {
	g := made(t, 1)
	enter(t, g, 0)
	deferred(t, g, 7, false)
	is(t, "inside", g.Poll())
	leave(t, g, 0)
	is(t, "left", g.Poll(), 7)
	if why := g.Leave(0); why != api.ErrPast {
		t.Error(why)
	}
	g = made(t, 1)
	deferred(t, g, 7, true)
	enter(t, g, 0)
	is(t, "entered behind Defer", g.Poll(), 7)
}
