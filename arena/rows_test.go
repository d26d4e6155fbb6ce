package arena_test

import (
	"math/rand"
	"slices"
	"testing"

	"warren/api"
	"warren/arena"
)

// Kinds of calls that a row is made of.
const (
	asTake = iota
	asFree
	asGet
	asSet
)

// ask is one call of a row; v is what Take and Set put.
type ask struct {
	kind int
	h    handle
	v    int64
}

// answer is what a call answers, the fields that its kind does not have being zero.
type answer struct {
	h   handle
	v   int64
	why api.Errno
}

func play(a *arena.Arena, c ask) (x answer) {
	switch c.kind {
	case asTake:
		x.h, x.why = a.Take(c.v)
	case asFree:
		x.why = a.Free(c.h)
	case asGet:
		x.v, x.why = a.Get(c.h)
	case asSet:
		x.why = a.Set(c.h, c.v)
	}
	return x
}

// told is the chapter's words, without a list of free slots and without generations that are kept: of each slot at which call it was taken and freed each time.
type told struct {
	takes, frees [][]int
	values       []int64
	calls, stale int
}

func telling(n int) *told {
	return &told{takes: make([][]int, n), frees: make([][]int, n), values: make([]int64, n)}
}

func (w *told) gen(slot int) int64 { return int64(len(w.takes[slot]) + len(w.frees[slot])) }

func (w *told) isFree(slot int) bool { return len(w.takes[slot]) == len(w.frees[slot]) }

// chosen answers the free slot that a Take gets, -1 if there is none: one never freed by number, else by when it was freed last.
func (w *told) chosen() int {
	for slot := range w.takes {
		if w.isFree(slot) && len(w.frees[slot]) == 0 {
			return slot
		}
	}
	best := -1
	for slot, frees := range w.frees {
		if w.isFree(slot) && (best < 0 || frees[len(frees)-1] < w.frees[best][len(w.frees[best])-1]) {
			best = slot
		}
	}
	return best
}

func (w *told) live() []handle {
	var all []handle
	for slot := range w.takes {
		if !w.isFree(slot) {
			all = append(all, handle{Slot: slot, Gen: w.gen(slot)})
		}
	}
	return all
}

func (w *told) play(c ask) answer {
	w.calls++
	if c.kind == asTake {
		slot := w.chosen()
		if slot < 0 {
			return answer{why: api.ErrFull}
		}
		w.takes[slot] = append(w.takes[slot], w.calls)
		w.values[slot] = c.v
		return answer{h: handle{Slot: slot, Gen: w.gen(slot)}}
	}
	if c.h.Slot < 0 || c.h.Slot >= len(w.takes) {
		return answer{why: api.ErrArg}
	}
	if !slices.Contains(w.live(), c.h) {
		w.stale++
		return answer{why: api.ErrGone}
	}
	switch c.kind {
	case asFree:
		w.frees[c.h.Slot] = append(w.frees[c.h.Slot], w.calls)
	case asSet:
		w.values[c.h.Slot] = c.v
	case asGet:
		return answer{v: w.values[c.h.Slot]}
	}
	return answer{}
}

// holdAgainst plays the row in an arena and as it is told, and holds all that can be asked against each other behind each call. P3.3: no handle that was freed, or given out by nobody, is ever good.
func holdAgainst(t *testing.T, n int, row []ask) {
	t.Helper()
	a, w := made(t, n), telling(n)
	gone := map[handle]int{}
	for i, c := range row {
		got, want := play(a, c), w.play(c)
		if got != want {
			t.Fatalf("%d slots, %v, call %d: %v, want %v", n, row[max(0, i-9):i+1], i, got, want)
		}
		if !slices.Equal(a.Live(), w.live()) || a.Left() != n-len(w.live()) || a.Stale() != w.stale {
			t.Fatalf("%d slots, %v, call %d: %v, %d, %d", n, row[max(0, i-9):i+1], i, a.Live(), a.Left(), a.Stale())
		}
		if c.kind == asFree && got.why == api.OK {
			gone[c.h]++
		}
		for _, h := range a.Live() {
			if gone[h] > 0 {
				t.Fatalf("P3.3: %d slots, %v, call %d: %v is good again", n, row[max(0, i-9):i+1], i, h)
			}
		}
	}
	for _, h := range w.live() {
		holds(t, a, h, w.values[h.Slot])
	}
}

// alphabet: calls of an arena of two slots, good, elder, younger and wrong.
func alphabet() []ask {
	all := []ask{{kind: asTake, v: 1}, {kind: asGet, h: handle{Slot: 2, Gen: 1}}, {kind: asFree, h: handle{Slot: -1, Gen: 1}}}
	for slot := range 2 {
		for gen := range int64(4) {
			all = append(all, ask{kind: asFree, h: handle{slot, gen}})
			if gen%2 == 1 {
				all = append(all, ask{asSet, handle{slot, gen}, 2}, ask{kind: asGet, h: handle{slot, gen}})
			}
		}
	}
	return all
}

// P3.1 to P3.3: all rows of four calls of the alphabet, and of three behind up to three Takes.
func TestAllShortRows(t *testing.T) {
	all := alphabet()
	row := make([]ask, 0, 8)
	var grow func(left int)
	grow = func(left int) {
		if left == 0 {
			holdAgainst(t, 2, row)
			return
		}
		for _, c := range all {
			row = append(row, c)
			grow(left - 1)
			row = row[:len(row)-1]
		}
	}
	for n := range 4 {
		row = row[:0]
		for v := range n {
			row = append(row, ask{kind: asTake, v: int64(v)})
		}
		grow(3)
	}
	row = row[:0]
	grow(4)
}

// P3.1 to P3.3: long rows over arenas of several sizes, with handles that were given out, some of them changed a little.
func TestLongRows(t *testing.T) {
	r := rand.New(rand.NewSource(3))
	for _, n := range []int{1, 2, 3, 5, 17, api.MaxSlots} {
		for range 20 {
			holdAgainst(t, n, longRow(r, n, 600))
		}
	}
}

// longRow answers calls whose handles are mostly those that were given out earlier; now full, now empty.
func longRow(r *rand.Rand, n, calls int) []ask {
	w := telling(n)
	given := []handle{{}}
	var row []ask
	for len(row) < calls {
		c := ask{kind: r.Intn(4), h: given[r.Intn(len(given))], v: r.Int63() - r.Int63()}
		if live := w.live(); len(live) > 0 && r.Intn(2) == 0 {
			c.h = live[r.Intn(len(live))]
		}
		switch r.Intn(12) {
		case 0:
			c.h.Gen += int64(r.Intn(5) - 2)
		case 1:
			c.h.Slot += r.Intn(2*n+1) - n
		}
		if len(row)/100%2 == 0 && c.kind == asFree && r.Intn(2) == 0 {
			c.kind = asTake
		}
		if x := w.play(c); c.kind == asTake && x.why == api.OK {
			given = append(given, x.h)
		}
		row = append(row, c)
	}
	return row
}
