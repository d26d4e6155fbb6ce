package cell_test

import (
	"math"
	"slices"
	"testing"

	"warren/api"
	"warren/cell"
)

// op is an access that a test asks for; want is what a Swap looks for.
type op struct {
	kind, at  int
	want, put int64
}

func made(t *testing.T, n int) *cell.Memory {
	t.Helper()
	m, why := cell.New(n)
	if m == nil || why != api.OK {
		t.Fatalf("New(%d): %v, %v", n, m, why)
	}
	return m
}

// ask makes o and answers what came of it: Load's word, Swap's answer, the refusal.
func ask(m *cell.Memory, o op) (int64, bool, api.Errno) {
	switch o.kind {
	case cell.Load:
		v, why := m.Load(o.at)
		return v, false, why
	case cell.Store:
		return 0, false, m.Store(o.at, o.put)
	}
	ok, why := m.Swap(o.at, o.want, o.put)
	return 0, ok, why
}

func TestKindsAreNumberedFromOne(t *testing.T) {
	if cell.Load != 1 || cell.Store != 2 || cell.Swap != 3 {
		t.Error(cell.Load, cell.Store, cell.Swap)
	}
}

// P1.1: how many cells there may be.
func TestNewTakesOneToMaxCells(t *testing.T) {
	for n := 1; n <= api.MaxCells; n++ {
		if words := made(t, n).Words(); !slices.Equal(words, make([]int64, n)) {
			t.Errorf("New(%d): %v", n, words)
		}
	}
	for _, n := range []int{0, -1, api.MaxCells + 1, -api.MaxCells, 1 << 32, 1<<32 + 1, math.MaxInt, math.MinInt} {
		if m, why := cell.New(n); m != nil || why != api.ErrArg {
			t.Errorf("New(%d): %v, %v", n, m, why)
		}
	}
}

// P1.1: the first and the last cell are there, what is ahead of and past them is not.
func TestAccessesReachJustTheCells(t *testing.T) {
	for _, n := range []int{1, 2, api.MaxCells} {
		for _, at := range []int{0, n - 1} {
			m := made(t, n)
			if why := m.Store(at, 5); why != api.OK {
				t.Errorf("%d cells: Store(%d): %v", n, at, why)
			}
			if v, why := m.Load(at); v != 5 || why != api.OK {
				t.Errorf("%d cells: Load(%d): %d, %v", n, at, v, why)
			}
			if ok, why := m.Swap(at, 5, 6); !ok || why != api.OK {
				t.Errorf("%d cells: Swap(%d): %v, %v", n, at, ok, why)
			}
		}
		for _, at := range []int{-1, -n, n, n + 1, api.MaxCells, 99, 1 << 32, math.MaxInt, math.MinInt} {
			for _, kind := range []int{cell.Load, cell.Store, cell.Swap} {
				if v, ok, why := ask(made(t, n), op{kind, at, 0, 1}); v != 0 || ok || why != api.ErrArg {
					t.Errorf("%d cells: kind %d at %d: %d, %v, %v", n, kind, at, v, ok, why)
				}
			}
		}
	}
}

// P1.1: an access is one of its own cell alone, and of its own memory alone.
func TestStoreTouchesNothingElse(t *testing.T) {
	m, other := made(t, 4), made(t, 4)
	for at := range 4 {
		m.Store(at, int64(at)+10)
	}
	m.Swap(1, 11, 21)
	if words := m.Words(); !slices.Equal(words, []int64{10, 21, 12, 13}) {
		t.Error(words)
	}
	if other.Steps() != 0 || other.Last() != (cell.Access{}) || !slices.Equal(other.Words(), make([]int64, 4)) {
		t.Error("another memory has changed")
	}
}

// P1.1: Swap turns the cell only if it holds old; P1.2: both ways are a step that Last tells.
func TestSwap(t *testing.T) {
	const lo, hi = math.MinInt64, math.MaxInt64
	for _, c := range []struct {
		held, old, next int64
		ok              bool
		now             int64
	}{
		{0, 0, 7, true, 7},
		{7, 0, 8, false, 7},
		{7, 8, 7, false, 7},
		{7, 7, 7, true, 7},
		{0, 0, 0, true, 0},
		{lo, lo, hi, true, hi},
		{hi, lo, 0, false, hi},
		{lo, 0, 1, false, lo},
		{1 << 32, 0, 1, false, 1 << 32},
		{-1, 1, 0, false, -1},
	} {
		m := made(t, 2)
		m.Store(1, c.held)
		ok, why := m.Swap(1, c.old, c.next)
		if ok != c.ok || why != api.OK || !slices.Equal(m.Words(), []int64{0, c.now}) {
			t.Errorf("%+v: %v, %v, %v", c, ok, why, m.Words())
		}
		if last := (cell.Access{Kind: cell.Swap, At: 1, Old: c.held, New: c.now, Done: c.ok}); m.Last() != last || m.Steps() != 2 {
			t.Errorf("%+v: %+v, %d", c, m.Last(), m.Steps())
		}
	}
}

// The chapter's runs.
func TestRuns(t *testing.T) {
	m := made(t, 3)
	first, why1 := m.Swap(0, 0, 7)
	second, why2 := m.Swap(0, 0, 8)
	if !first || second || why1 != api.OK || why2 != api.OK {
		t.Error(first, second, why1, why2)
	}
	if v, why := m.Load(99); v != 0 || why != api.ErrArg {
		t.Error(v, why)
	}
}

// P1.2: Last and Steps ahead of the first access, and behind each kind.
func TestLastAndSteps(t *testing.T) {
	m := made(t, 2)
	if m.Last() != (cell.Access{}) || m.Steps() != 0 {
		t.Errorf("ahead of the first: %+v, %d", m.Last(), m.Steps())
	}
	for i, c := range []struct {
		op
		last cell.Access
	}{
		{op{cell.Load, 0, 0, 0}, cell.Access{Kind: cell.Load, Done: true}},
		{op{cell.Store, 1, 0, 3}, cell.Access{Kind: cell.Store, At: 1, New: 3, Done: true}},
		{op{cell.Store, 1, 0, 3}, cell.Access{Kind: cell.Store, At: 1, Old: 3, New: 3, Done: true}},
		{op{cell.Store, 1, 0, -4}, cell.Access{Kind: cell.Store, At: 1, Old: 3, New: -4, Done: true}},
		{op{cell.Load, 1, 0, 0}, cell.Access{Kind: cell.Load, At: 1, Old: -4, New: -4, Done: true}},
		{op{cell.Swap, 1, -4, 9}, cell.Access{Kind: cell.Swap, At: 1, Old: -4, New: 9, Done: true}},
		{op{cell.Swap, 1, -4, 8}, cell.Access{Kind: cell.Swap, At: 1, Old: 9, New: 9}},
		{op{cell.Load, 0, 0, 0}, cell.Access{Kind: cell.Load, Done: true}},
	} {
		ask(m, c.op)
		if m.Last() != c.last || m.Steps() != i+1 {
			t.Errorf("access %d: %+v, %d", i, m.Last(), m.Steps())
		}
	}
}

// P1.2, R3: a refused access is no step: nothing tells it later, be it the first or behind others.
func TestRefusedAccessChangesNothing(t *testing.T) {
	for _, ahead := range [][]op{nil, {{cell.Store, 1, 0, 5}}, {{cell.Store, 0, 0, 5}, {cell.Swap, 0, 0, 1}}} {
		m := made(t, 2)
		for _, o := range ahead {
			ask(m, o)
		}
		last, words := m.Last(), m.Words()
		for _, at := range []int{-1, 2, math.MaxInt, math.MinInt} {
			for _, kind := range []int{cell.Load, cell.Store, cell.Swap} {
				ask(m, op{kind, at, 0, 77})
				if m.Last() != last || m.Steps() != len(ahead) || !slices.Equal(m.Words(), words) {
					t.Errorf("%v, then kind %d at %d: %+v, %d, %v", ahead, kind, at, m.Last(), m.Steps(), m.Words())
				}
			}
		}
	}
}

// P1.2: looking is no access.
func TestLookingIsNoStep(t *testing.T) {
	m := made(t, 3)
	m.Store(2, 4)
	last := m.Last()
	for range 3 {
		m.Words()
		m.Last()
		m.Steps()
	}
	if m.Last() != last || m.Steps() != 1 || !slices.Equal(m.Words(), []int64{0, 0, 4}) {
		t.Errorf("%+v, %d, %v", m.Last(), m.Steps(), m.Words())
	}
}

// R2: each answer of Words is new memory, its spare room too.
func TestWordsIsNewMemory(t *testing.T) {
	for _, n := range []int{1, 3, api.MaxCells} {
		m := made(t, n)
		m.Store(n-1, 6)
		want := m.Words()
		one, two := m.Words(), m.Words()
		one = one[:cap(one)]
		for i := range one {
			one[i] = 99
		}
		if !slices.Equal(two, want) || !slices.Equal(m.Words(), want) {
			t.Errorf("%d cells: writing an answer changed another one or the memory", n)
		}
		if slices.Contains(two[:cap(two)], 99) {
			t.Errorf("%d cells: answers share spare room", n)
		}
		m.Store(0, 42)
		if !slices.Equal(two, want) {
			t.Errorf("%d cells: an access changed an elder answer", n)
		}
	}
}

// alphabet: accesses of two cells with two words each, and of the cells ahead of and past them.
func alphabet() []op {
	var all []op
	for at := -1; at <= 2; at++ {
		all = append(all, op{cell.Load, at, 0, 0})
		for put := range int64(2) {
			all = append(all, op{cell.Store, at, 0, put})
			for want := range int64(2) {
				all = append(all, op{cell.Swap, at, want, put})
			}
		}
	}
	return all
}

// told is what the accesses so far must have made.
type told struct {
	words [2]int64
	steps int
	last  cell.Access
}

// next tells, written apart from the program, what o makes of s.
func next(s told, o op) (told, int64, bool, api.Errno) {
	if o.at != 0 && o.at != 1 {
		return s, 0, false, api.ErrArg
	}
	held := s.words[o.at]
	s.steps++
	switch {
	case o.kind == cell.Load:
		s.last = cell.Access{Kind: cell.Load, At: o.at, Old: held, New: held, Done: true}
		return s, held, false, api.OK
	case o.kind == cell.Store:
		s.words[o.at] = o.put
		s.last = cell.Access{Kind: cell.Store, At: o.at, Old: held, New: o.put, Done: true}
		return s, 0, false, api.OK
	case held != o.want:
		s.last = cell.Access{Kind: cell.Swap, At: o.at, Old: held, New: held}
		return s, 0, false, api.OK
	}
	s.words[o.at] = o.put
	s.last = cell.Access{Kind: cell.Swap, At: o.at, Old: held, New: o.put, Done: true}
	return s, 0, true, api.OK
}

// P1.3: all rows of three accesses of the alphabet: the words are what the accesses, one behind the other, have made.
func TestWordsIsWhatTheAccessesMade(t *testing.T) {
	all := alphabet()
	for _, a := range all {
		for _, b := range all {
			for _, c := range all {
				playAndHold(t, []op{a, b, c})
			}
		}
	}
}

func playAndHold(t *testing.T, row []op) {
	t.Helper()
	m := made(t, 2)
	var s told
	for i, o := range row {
		v, ok, why := ask(m, o)
		after, v1, ok1, why1 := next(s, o)
		if s = after; v != v1 || ok != ok1 || why != why1 {
			t.Fatalf("P1.1: %v, access %d: %d, %v, %v", row, i, v, ok, why)
		}
		if m.Steps() != s.steps || m.Last() != s.last {
			t.Fatalf("P1.2: %v, access %d: %d, %+v", row, i, m.Steps(), m.Last())
		}
		if !slices.Equal(m.Words(), s.words[:]) {
			t.Fatalf("P1.3: %v, access %d: %v", row, i, m.Words())
		}
	}
}

// P1.3: over a long run the words are told by Last alone: each access hands on what the one ahead of it left.
func TestLastTellsTheWords(t *testing.T) {
	const n, rounds = api.MaxCells, 5000
	m := made(t, n)
	words := make([]int64, n)
	for i := range rounds {
		o := op{1 + i%3, i * 7 % (n + 2), int64(i % 5), int64(i * i % 5)}
		if _, _, why := ask(m, o); why != api.OK {
			continue
		}
		last := m.Last()
		if last.Old != words[last.At] {
			t.Fatalf("access %d: %+v, but the cell held %d", i, last, words[last.At])
		}
		words[last.At] = last.New
		if !slices.Equal(m.Words(), words) {
			t.Fatalf("access %d: %v, want %v", i, m.Words(), words)
		}
	}
}
