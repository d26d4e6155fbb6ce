package grace_test

import (
	"math"
	"math/rand"
	"slices"
	"testing"

	"warren/api"
	"warren/grace"
)

// Kinds of calls that a row is made of.
const (
	asEnter = iota
	asLeave
	asDefer
	asPoll
)

// ask is one call of a row; n is a reader, or the id of a Defer.
type ask struct {
	kind int
	n    int64
}

// answer is what a call answers, the fields that its kind does not have being zero.
type answer struct {
	nobody bool
	why    api.Errno
	ids    []int64
}

func (x answer) same(y answer) bool {
	return x.nobody == y.nobody && x.why == y.why && slices.Equal(x.ids, y.ids)
}

func play(g *grace.Grace, c ask) (x answer) {
	switch c.kind {
	case asEnter:
		x.why = g.Enter(int(c.n))
	case asLeave:
		x.why = g.Leave(int(c.n))
	case asDefer:
		x.nobody, x.why = g.Defer(c.n)
	case asPoll:
		x.ids = g.Poll()
	}
	return x
}

// told is the chapter's words, without sets of readers: of each reader the last moment at which it was outside, of each id the moment of its Defer. A reader blocks if it was not outside since.
type told struct {
	moment   int
	sections []int
	outside  []int
	waits    []toldWait
}

type toldWait struct {
	id int64
	at int
}

func telling(readers int) *told {
	return &told{sections: make([]int, readers), outside: make([]int, readers)}
}

// notOutside answers the readers that were inside at all moments from at on.
func (w *told) notOutside(at int) []int {
	var all []int
	for r, last := range w.outside {
		if last < at {
			all = append(all, r)
		}
	}
	return all
}

func (w *told) waiting() []int64 {
	var ids []int64
	for _, x := range w.waits {
		ids = append(ids, x.id)
	}
	return ids
}

func (w *told) blocks(id int64) []int {
	i := slices.IndexFunc(w.waits, func(x toldWait) bool { return x.id == id })
	if i < 0 {
		return nil
	}
	return w.notOutside(w.waits[i].at)
}

func (w *told) play(c ask) answer {
	w.moment++
	x := w.call(c)
	for r, n := range w.sections {
		if n == 0 {
			w.outside[r] = w.moment
		}
	}
	return x
}

func (w *told) call(c ask) answer {
	switch c.kind {
	case asDefer:
		if len(w.waits) == api.MaxDefer {
			return answer{why: api.ErrFull}
		}
		w.waits = append(w.waits, toldWait{c.n, w.moment})
		return answer{nobody: !slices.ContainsFunc(w.sections, func(n int) bool { return n > 0 })}
	case asPoll:
		var x answer
		for i := 0; i < len(w.waits); {
			if len(w.notOutside(w.waits[i].at)) > 0 {
				i++
				continue
			}
			x.ids = append(x.ids, w.waits[i].id)
			w.waits = slices.Delete(w.waits, i, i+1)
		}
		return x
	}
	if c.n < 0 || c.n >= int64(len(w.sections)) {
		return answer{why: api.ErrArg}
	}
	if c.kind == asEnter {
		w.sections[c.n]++
		return answer{}
	}
	if w.sections[c.n] == 0 {
		return answer{why: api.ErrPast}
	}
	w.sections[c.n]--
	return answer{}
}

// holdAgainst plays the row in a Grace and as it is told, and holds all that can be asked against each other behind each call. A third one is asked nothing between, and is given no call that was refused: R3.
func holdAgainst(t *testing.T, readers int, row []ask) {
	t.Helper()
	g, quiet, w := made(t, readers), made(t, readers), telling(readers)
	for i, c := range row {
		got, want := play(g, c), w.play(c)
		if !got.same(want) {
			t.Fatalf("%d readers, %v, call %d: %v, want %v", readers, row[max(0, i-9):i+1], i, got, want)
		}
		if want.why == api.OK {
			if x := play(quiet, c); !x.same(want) {
				t.Fatalf("%d readers, %v, call %d, nothing else asked: %v, want %v", readers, row[max(0, i-9):i+1], i, x, want)
			}
		}
		if !slices.Equal(g.Waiting(), w.waiting()) || !slices.Equal(g.Inside(), w.notOutside(w.moment)) {
			t.Fatalf("%d readers, %v, call %d: %v, %v", readers, row[max(0, i-9):i+1], i, g.Waiting(), g.Inside())
		}
		for _, id := range append(w.waiting(), c.n, 12345) {
			if x := g.Blocks(id); !slices.Equal(x, w.blocks(id)) {
				t.Fatalf("%d readers, %v, call %d: Blocks(%d): %v", readers, row[max(0, i-9):i+1], i, id, x)
			}
		}
	}
}

// allRows goes through all rows of so many calls of the alphabet.
func allRows(alphabet []ask, calls int, each func(row []ask)) {
	row := make([]ask, calls)
	var grow func(at int)
	grow = func(at int) {
		if at == calls {
			each(row)
			return
		}
		for _, c := range alphabet {
			row[at] = c
			grow(at + 1)
		}
	}
	grow(0)
}

// P4.1, P4.2: all rows of five calls of two readers, good and wrong, with two ids.
func TestAllShortRows(t *testing.T) {
	alphabet := []ask{{asEnter, 0}, {asEnter, 1}, {asLeave, 0}, {asLeave, 1}, {asDefer, 7}, {asDefer, -8}, {asPoll, 0}, {asEnter, 2}, {asLeave, -1}}
	allRows(alphabet, 5, func(row []ask) { holdAgainst(t, 2, row) })
}

// P4.3: in all rows of seven calls of two readers each id is told once at most, and never while a reader that was inside at its Defer is inside since; when all have left, all are told.
func TestToldOnceAndNeverTooEarly(t *testing.T) {
	alphabet := []ask{{asEnter, 0}, {asEnter, 1}, {asLeave, 0}, {asLeave, 1}, {kind: asDefer}, {kind: asPoll}}
	allRows(alphabet, 7, func(row []ask) {
		g := made(t, 2)
		ids := map[int64]int{}
		for i, c := range row {
			if c.kind == asDefer {
				c.n = int64(i)
				ids[c.n] = 0
			}
			for _, id := range play(g, c).ids {
				if ids[id]++; ids[id] != 1 || stillInside(row[:i], int(id)) {
					t.Fatalf("%v: call %d told %d", row, i, id)
				}
			}
		}
		for r := range 2 {
			for g.Leave(r) == api.OK {
			}
		}
		for _, id := range g.Poll() {
			ids[id]++
		}
		for id, n := range ids {
			if n != 1 {
				t.Fatalf("%v: %d was told %d times", row, id, n)
			}
		}
	})
}

// stillInside tells whether a reader that was inside at the call at was so behind each call of the row since.
func stillInside(row []ask, at int) bool {
	for r := range int64(2) {
		sections, stayed := 0, true
		for i, c := range row {
			if c == (ask{asEnter, r}) {
				sections++
			} else if c == (ask{asLeave, r}) && sections > 0 {
				sections--
			}
			stayed = stayed && (i < at || sections > 0)
		}
		if stayed {
			return true
		}
	}
	return false
}

// P4.1 to P4.3: long rows of all numbers of readers, now with few Leaves and Polls so that it is full, now with many.
func TestLongRows(t *testing.T) {
	r := rand.New(rand.NewSource(4))
	for readers := 1; readers <= api.MaxReaders; readers++ {
		for range 20 {
			holdAgainst(t, readers, longRow(r, readers, 600))
		}
	}
}

func longRow(r *rand.Rand, readers, calls int) []ask {
	ids := []int64{0, 1, 2, 3, -1, math.MinInt64, math.MaxInt64}
	row := make([]ask, calls)
	for i := range row {
		c := ask{kind: r.Intn(4), n: int64(r.Intn(readers))}
		if full := i/100%2 == 0; full && c.kind == asPoll && r.Intn(4) > 0 {
			c.kind = asDefer
		} else if !full && c.kind == asEnter && r.Intn(3) == 0 {
			c.kind = asLeave
		}
		switch {
		case c.kind == asDefer:
			c.n = ids[r.Intn(len(ids))]
		case r.Intn(20) == 0:
			c.n = int64(r.Intn(3*readers) - readers)
		}
		row[i] = c
	}
	return row
}
