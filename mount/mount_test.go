package mount_test

import (
	"fmt"
	"math"
	"slices"
	"testing"

	"warren/api"
	"warren/mount"
)

func at(m, n int) api.Place { return api.Place{Mount: m, Node: n} }

// odd are numbers of mounts that no test binds, and of nodes that may be tops all the same.
var odd = []int{-1, 99, math.MaxInt, math.MinInt}

// binds lays a mount that is to have the number.
func binds(t *testing.T, x *mount.Table, p api.Place, node, want int) {
	t.Helper()
	if m, why := x.Bind(p, node); m != want || why != api.OK {
		t.Fatalf("Bind(%v, %d): %d, %v, want %d", p, node, m, why, want)
	}
}

// notBound asks for a mount that is refused, and that all is as it was.
func notBound(t *testing.T, x *mount.Table, p api.Place, node int, want api.Errno) {
	t.Helper()
	was := look(x)
	if m, why := x.Bind(p, node); m != 0 || why != want {
		t.Errorf("Bind(%v, %d): %d, %v, want %v", p, node, m, why, want)
	}
	if is := look(x); is != was {
		t.Errorf("Bind(%v, %d) was refused, and turned\n%s into\n%s", p, node, was, is)
	}
}

func unbinds(t *testing.T, x *mount.Table, m int) {
	t.Helper()
	if why := x.Unbind(m); why != api.OK {
		t.Fatalf("Unbind(%d): %v", m, why)
	}
}

// notUnbound asks for what is refused, and that all is as it was.
func notUnbound(t *testing.T, x *mount.Table, m int, want api.Errno) {
	t.Helper()
	was := look(x)
	if why := x.Unbind(m); why != want {
		t.Errorf("Unbind(%d): %v, want %v", m, why, want)
	}
	if is := look(x); is != was {
		t.Errorf("Unbind(%d) was refused, and turned\n%s into\n%s", m, was, is)
	}
}

func down(t *testing.T, x *mount.Table, p, want api.Place) {
	t.Helper()
	if q := x.Down(p); q != want {
		t.Errorf("Down(%v): %v, want %v", p, q, want)
	}
}

func up(t *testing.T, x *mount.Table, p, want api.Place) {
	t.Helper()
	if q, is := x.Up(p); q != want || !is {
		t.Errorf("Up(%v): %v, %v, want %v", p, q, is, want)
	}
}

func notUp(t *testing.T, x *mount.Table, p api.Place) {
	t.Helper()
	if q, is := x.Up(p); q != p || is {
		t.Errorf("Up(%v): %v, %v, want it itself, false", p, q, is)
	}
}

func root(t *testing.T, x *mount.Table, m, want int) {
	t.Helper()
	if n, there := x.Root(m); n != want || !there {
		t.Errorf("Root(%d): %d, %v, want %d", m, n, there, want)
	}
}

func noRoot(t *testing.T, x *mount.Table, m int) {
	t.Helper()
	if n, there := x.Root(m); n != 0 || there {
		t.Errorf("Root(%d): %d, %v, want 0, false", m, n, there)
	}
}

// covered asks of nodes -1 to 20 which mounts lie at places of.
func covered(t *testing.T, x *mount.Table, want ...int) {
	t.Helper()
	var got []int
	for n := -1; n <= 20; n++ {
		if x.Covered(n) {
			got = append(got, n)
		}
	}
	if !slices.Equal(got, want) {
		t.Errorf("Covered: %v, want %v", got, want)
	}
}

func list(t *testing.T, x *mount.Table, want ...int) {
	t.Helper()
	if got := x.List(); !slices.Equal(got, want) {
		t.Errorf("List: %v, want %v", got, want)
	}
}

func above(t *testing.T, x *mount.Table, m int, want ...int) {
	t.Helper()
	if got := x.Above(m); !slices.Equal(got, want) {
		t.Errorf("Above(%d): %v, want %v", m, got, want)
	}
}

// look tells all that can be asked of mounts -1 to 12 and nodes -1 to 40.
func look(x *mount.Table) string {
	text := fmt.Sprint(x.List())
	for m := -1; m <= 12; m++ {
		top, there := x.Root(m)
		text += fmt.Sprint("; ", m, top, there, x.Above(m))
		for n := -1; n <= 40; n++ {
			p, is := x.Up(at(m, n))
			text += fmt.Sprint(" ", x.Down(at(m, n)), p, is, x.Covered(n))
		}
	}
	return text
}

// Mount 0 has the node root at its top, whichever number that is.
func TestNew(t *testing.T) {
	for _, n := range append(odd, 0, 1, 2) {
		x := mount.New(n)
		root(t, x, 0, n)
		list(t, x, 0)
		above(t, x, 0)
		down(t, x, at(0, n), at(0, n))
		notUp(t, x, at(0, n))
		if x.Covered(n) || x.Covered(0) {
			t.Errorf("New(%d): a mount lies there", n)
		}
		for _, m := range append(odd, 1) {
			noRoot(t, x, m)
			above(t, x, m)
		}
		binds(t, x, at(0, n), n, 1)
		down(t, x, at(0, n), at(1, n))
		up(t, x, at(1, n), at(0, n))
		root(t, x, 0, n)
		root(t, x, 1, n)
	}
}

// Tables have nothing in common.
func TestTablesAreApart(t *testing.T) {
	x, y := mount.New(1), mount.New(2)
	binds(t, x, at(0, 3), 4, 1)
	binds(t, x, at(0, 5), 6, 2)
	list(t, y, 0)
	covered(t, y)
	root(t, y, 0, 2)
	binds(t, y, at(0, 3), 7, 1)
	down(t, x, at(0, 3), at(1, 4))
	down(t, y, at(0, 3), at(1, 7))
}

// The chapter's runs.
func TestRuns(t *testing.T) {
	x := mount.New(1)
	binds(t, x, at(0, 2), 5, 1)
	down(t, x, at(0, 2), at(1, 5))
	up(t, x, at(1, 5), at(0, 2))
	notBound(t, x, at(0, 2), 6, api.ErrBusy)
}

// The chapter's examples.
func TestExamples(t *testing.T) {
	x := mount.New(1)
	binds(t, x, at(0, 2), 5, 1)
	binds(t, x, at(1, 5), 7, 2)
	down(t, x, at(0, 2), at(2, 7))
	notUnbound(t, x, 0, api.ErrArg)
	noRoot(t, x, 3)
}

// P11.1: Bind at a place of no mount.
func TestBindOfNoMount(t *testing.T) {
	x := mount.New(1)
	for _, m := range append(odd, 1, 2) {
		notBound(t, x, at(m, 1), 5, api.ErrArg)
	}
	binds(t, x, at(0, 2), 5, 1)
	notBound(t, x, at(2, 5), 6, api.ErrArg)
	unbinds(t, x, 1)
	notBound(t, x, at(1, 5), 6, api.ErrArg)
	notBound(t, x, at(1, 2), 6, api.ErrArg)
	binds(t, x, at(0, 2), 5, 2)
}

// P11.1: Bind at a place at which a mount lies is refused; the same node under another mount, and another node, are other places.
func TestBindOfBusyPlace(t *testing.T) {
	x := mount.New(1)
	binds(t, x, at(0, 2), 5, 1)
	for _, n := range append(odd, 0, 1, 2, 5) {
		notBound(t, x, at(0, 2), n, api.ErrBusy)
	}
	binds(t, x, at(1, 2), 5, 2)
	binds(t, x, at(0, 3), 5, 3)
	binds(t, x, at(3, 2), 2, 4)
	notBound(t, x, at(1, 2), 5, api.ErrBusy)
	notBound(t, x, at(3, 2), 5, api.ErrBusy)
	unbinds(t, x, 2)
	binds(t, x, at(1, 2), 6, 5)
	notBound(t, x, at(0, 2), 5, api.ErrBusy)
}

// P11.1: Bind at a node that is a top, of mount 0 and of others, and at nodes of any number.
func TestBindAtTops(t *testing.T) {
	x := mount.New(1)
	binds(t, x, at(0, 1), 5, 1)
	down(t, x, at(0, 1), at(1, 5))
	binds(t, x, at(1, 5), 5, 2)
	down(t, x, at(0, 1), at(2, 5))
	binds(t, x, at(0, 5), 1, 3)
	down(t, x, at(0, 5), at(3, 1))
	binds(t, x, at(3, math.MinInt), math.MaxInt, 4)
	down(t, x, at(3, math.MinInt), at(4, math.MaxInt))
	up(t, x, at(4, math.MaxInt), at(3, math.MinInt))
	binds(t, x, at(4, 0), -1, 5)
	root(t, x, 5, -1)
	covered(t, x, 0, 1, 5)
	if !x.Covered(math.MinInt) || x.Covered(math.MaxInt) {
		t.Error("Covered of the least and the greatest")
	}
}

// P11.1: one node may be at the top of several mounts.
func TestOneNodeAtTwoPlaces(t *testing.T) {
	x := mount.New(1)
	binds(t, x, at(0, 2), 9, 1)
	binds(t, x, at(0, 3), 9, 2)
	down(t, x, at(0, 2), at(1, 9))
	down(t, x, at(0, 3), at(2, 9))
	up(t, x, at(1, 9), at(0, 2))
	up(t, x, at(2, 9), at(0, 3))
	unbinds(t, x, 1)
	down(t, x, at(0, 2), at(0, 2))
	down(t, x, at(0, 3), at(2, 9))
	notUp(t, x, at(1, 9))
	up(t, x, at(2, 9), at(0, 3))
}

// filled answers a table of so many mounts, 0 counted, at places of mount 0 from node 10 on.
func filled(t *testing.T, mounts int) *mount.Table {
	t.Helper()
	x := mount.New(1)
	for m := 1; m < mounts; m++ {
		binds(t, x, at(0, 10+m), 30+m, m)
	}
	return x
}

// P11.1: there are MaxMounts at most, 0 among them; what is unbound makes room, but its number does not come again.
func TestBindOfMany(t *testing.T) {
	x := filled(t, api.MaxMounts-1)
	binds(t, x, at(0, 5), 6, api.MaxMounts-1)
	list(t, x, 0, 1, 2, 3, 4, 5, 6, 7)
	notBound(t, x, at(0, 6), 6, api.ErrFull)
	notBound(t, x, at(1, 31), 6, api.ErrFull)
	notBound(t, x, at(7, 6), 6, api.ErrFull)
	for made := api.MaxMounts; made < 40; made++ {
		unbinds(t, x, made-5)
		binds(t, x, at(0, 100+made), 1, made)
		notBound(t, x, at(0, 6), 6, api.ErrFull)
	}
	list(t, x, 0, 1, 2, 35, 36, 37, 38, 39)
}

// P11.1: of several refusals the first that the chapter names.
func TestBindsFirstRefusal(t *testing.T) {
	x := filled(t, api.MaxMounts)
	for _, m := range append(odd, 8) {
		notBound(t, x, at(m, 11), 1, api.ErrArg)
	}
	notBound(t, x, at(0, 11), 1, api.ErrBusy)
	notBound(t, x, at(0, 12), 32, api.ErrBusy)
	notBound(t, x, at(0, 31), 1, api.ErrFull)
	// Room comes again, and a busy place stays one.
	unbinds(t, x, 3)
	notBound(t, x, at(3, 11), 1, api.ErrArg)
	notBound(t, x, at(0, 11), 1, api.ErrBusy)
	binds(t, x, at(0, 13), 1, 8)
}

// P11.1: a refused Bind takes no number.
func TestRefusedBindTakesNoNumber(t *testing.T) {
	x := mount.New(1)
	notBound(t, x, at(5, 2), 5, api.ErrArg)
	binds(t, x, at(0, 2), 5, 1)
	notBound(t, x, at(0, 2), 5, api.ErrBusy)
	binds(t, x, at(0, 3), 5, 2)
	x = filled(t, api.MaxMounts)
	notBound(t, x, at(0, 5), 5, api.ErrFull)
	unbinds(t, x, 7)
	binds(t, x, at(0, 5), 5, 8)
}

// P11.1: Unbind of 0, of none, and of one that is gone already.
func TestUnbindOfNone(t *testing.T) {
	x := mount.New(1)
	for _, m := range append(odd, 0, 1, 2) {
		notUnbound(t, x, m, api.ErrArg)
	}
	binds(t, x, at(0, 2), 5, 1)
	// 0 is refused as what may not go at all, whatever lies at its places.
	for _, m := range append(odd, 0, 2) {
		notUnbound(t, x, m, api.ErrArg)
	}
	unbinds(t, x, 1)
	notUnbound(t, x, 1, api.ErrArg)
	binds(t, x, at(0, 2), 5, 2)
	notUnbound(t, x, 1, api.ErrArg)
	unbinds(t, x, 2)
	list(t, x, 0)
}

// P11.1: a mount at whose places others lie does not go, till those are gone.
func TestUnbindOfBusy(t *testing.T) {
	x := mount.New(1)
	binds(t, x, at(0, 2), 5, 1)
	binds(t, x, at(1, 5), 6, 2)
	binds(t, x, at(1, 8), 7, 3)
	binds(t, x, at(0, 5), 7, 4)
	notUnbound(t, x, 1, api.ErrBusy)
	unbinds(t, x, 2)
	notUnbound(t, x, 1, api.ErrBusy)
	binds(t, x, at(3, 1), 1, 5)
	notUnbound(t, x, 3, api.ErrBusy)
	notUnbound(t, x, 1, api.ErrBusy)
	unbinds(t, x, 5)
	unbinds(t, x, 3)
	unbinds(t, x, 1)
	list(t, x, 0, 4)
	covered(t, x, 5)
	unbinds(t, x, 4)
	covered(t, x)
}

// P11.2: Down of places at which nothing lies, one mount, mounts over mounts' tops, and of a mount that is none.
func TestDown(t *testing.T) {
	x := mount.New(1)
	binds(t, x, at(0, 2), 5, 1)
	for _, p := range []api.Place{at(0, 1), at(0, 5), at(1, 2), at(1, 5), at(2, 2), at(-1, 2), at(0, -2), at(math.MinInt, math.MaxInt), at(9, 9)} {
		down(t, x, p, p)
	}
	down(t, x, at(0, 2), at(1, 5))
	last := at(1, 5)
	for m := 2; m < api.MaxMounts; m++ {
		binds(t, x, last, 4+m, m)
		last = at(m, 4+m)
		down(t, x, at(0, 2), last)
		down(t, x, at(m-1, 3+m), last)
	}
	down(t, x, at(4, 8), last)
	down(t, x, at(4, 2), at(4, 2))
	for m := api.MaxMounts - 1; m > 1; m-- {
		unbinds(t, x, m)
		down(t, x, at(0, 2), at(m-1, 3+m))
	}
	unbinds(t, x, 1)
	down(t, x, at(0, 2), at(0, 2))
	down(t, x, at(1, 5), at(1, 5))
}

// P11.2: a mount beside the top of the one that it lies in is not gone down to from below.
func TestDownStopsAtTheTop(t *testing.T) {
	x := mount.New(1)
	binds(t, x, at(0, 2), 5, 1)
	binds(t, x, at(1, 6), 7, 2)
	down(t, x, at(0, 2), at(1, 5))
	down(t, x, at(1, 6), at(2, 7))
	// Mount 1's top is covered, in another mount.
	binds(t, x, at(0, 5), 8, 3)
	down(t, x, at(0, 2), at(1, 5))
	down(t, x, at(0, 5), at(3, 8))
}

// P11.2: Up goes one mount up, from a top alone.
func TestUp(t *testing.T) {
	x := mount.New(1)
	binds(t, x, at(0, 2), 5, 1)
	binds(t, x, at(1, 5), 6, 2)
	binds(t, x, at(2, 9), 1, 3)
	up(t, x, at(1, 5), at(0, 2))
	up(t, x, at(2, 6), at(1, 5))
	up(t, x, at(3, 1), at(2, 9))
	for _, p := range []api.Place{at(0, 1), at(0, 2), at(0, 5), at(1, 2), at(1, 6), at(2, 5), at(2, 9), at(3, 9), at(4, 0), at(4, 1), at(-1, 0), at(-1, 5), at(99, 5), at(math.MaxInt, 0), at(math.MinInt, math.MinInt)} {
		notUp(t, x, p)
	}
	unbinds(t, x, 3)
	notUp(t, x, at(3, 1))
	notUp(t, x, at(3, 0))
	up(t, x, at(2, 6), at(1, 5))
}

// P11.2: Root of mounts that are there, that were, and that never were; a top of 0 is one.
func TestRoot(t *testing.T) {
	x := mount.New(-7)
	binds(t, x, at(0, 2), 0, 1)
	binds(t, x, at(1, 0), 6, 2)
	root(t, x, 0, -7)
	root(t, x, 1, 0)
	root(t, x, 2, 6)
	for _, m := range append(odd, 3) {
		noRoot(t, x, m)
	}
	unbinds(t, x, 2)
	noRoot(t, x, 2)
	root(t, x, 1, 0)
}

// P11.2: Covered asks where mounts lie, under whichever mount, and not what is at their tops.
func TestCovered(t *testing.T) {
	x := mount.New(1)
	covered(t, x)
	binds(t, x, at(0, 2), 5, 1)
	covered(t, x, 2)
	binds(t, x, at(1, 3), 5, 2)
	covered(t, x, 2, 3)
	binds(t, x, at(2, 2), 5, 3)
	binds(t, x, at(0, 1), 5, 4)
	binds(t, x, at(1, 0), 5, 5)
	covered(t, x, 0, 1, 2, 3)
	unbinds(t, x, 3)
	covered(t, x, 0, 1, 2, 3)
	unbinds(t, x, 5)
	unbinds(t, x, 2)
	covered(t, x, 1, 2)
	unbinds(t, x, 1)
	covered(t, x, 1)
	for _, n := range odd {
		if x.Covered(n) {
			t.Errorf("Covered(%d)", n)
		}
	}
}

// P11.2: List and Above, with none, one and many, rising, behind Unbind too.
func TestListAndAbove(t *testing.T) {
	x := mount.New(1)
	list(t, x, 0)
	above(t, x, 0)
	binds(t, x, at(0, 9), 5, 1)
	list(t, x, 0, 1)
	above(t, x, 0, 1)
	above(t, x, 1)
	binds(t, x, at(1, 8), 5, 2)
	binds(t, x, at(0, 7), 5, 3)
	binds(t, x, at(1, 6), 5, 4)
	binds(t, x, at(2, 5), 5, 5)
	binds(t, x, at(0, 4), 5, 6)
	list(t, x, 0, 1, 2, 3, 4, 5, 6)
	above(t, x, 0, 1, 3, 6)
	above(t, x, 1, 2, 4)
	above(t, x, 2, 5)
	above(t, x, 5)
	unbinds(t, x, 3)
	unbinds(t, x, 4)
	list(t, x, 0, 1, 2, 5, 6)
	above(t, x, 0, 1, 6)
	above(t, x, 1, 2)
	above(t, x, 3)
	binds(t, x, at(1, 7), 5, 7)
	binds(t, x, at(0, 3), 5, 8)
	list(t, x, 0, 1, 2, 5, 6, 7, 8)
	above(t, x, 0, 1, 6, 8)
	above(t, x, 1, 2, 7)
	for _, m := range odd {
		above(t, x, m)
	}
}

// spoil writes all over a list, its spare room too.
func spoil(list []int) {
	list = list[:cap(list)]
	for i := range list {
		list[i] = -77
	}
}

// R2: what is answered is new memory: who writes in it turns nothing, and no two answers share it.
func TestAnswersAreNew(t *testing.T) {
	x := filled(t, 5)
	binds(t, x, at(2, 1), 1, 5)
	was := look(x)
	all, over := x.List(), x.Above(0)
	spoil(x.List())
	spoil(x.Above(0))
	spoil(x.Above(2))
	if is := look(x); is != was {
		t.Errorf("what was answered is what is kept:\n%s\n%s", was, is)
	}
	if !slices.Equal(all, []int{0, 1, 2, 3, 4, 5}) || !slices.Equal(over, []int{1, 2, 3, 4}) {
		t.Errorf("two answers share memory: %v, %v", all, over)
	}
	unbinds(t, x, 1)
	binds(t, x, at(0, 1), 1, 6)
	if !slices.Equal(all, []int{0, 1, 2, 3, 4, 5}) || !slices.Equal(over, []int{1, 2, 3, 4}) {
		t.Errorf("a later call turned an answer: %v, %v", all, over)
	}
}

// P11.3: of mounts over one another, however they lie.
func TestNothingLiesAtWhatDownAnswers(t *testing.T) {
	x := mount.New(1)
	binds(t, x, at(0, 1), 1, 1)
	binds(t, x, at(1, 1), 1, 2)
	binds(t, x, at(2, 1), 1, 3)
	for m := range 4 {
		p := x.Down(at(m, 1))
		if p != at(3, 1) {
			t.Errorf("P11.3: Down of mount %d's top: %v", m, p)
		}
	}
	binds(t, x, x.Down(at(0, 1)), 1, 4)
	notBound(t, x, at(3, 1), 1, api.ErrBusy)
}
