package arena_test

import (
	"math"
	"slices"
	"testing"

	"warren/api"
	"warren/arena"
)

type handle = arena.Handle

func made(t *testing.T, n int) *arena.Arena {
	t.Helper()
	a, why := arena.New(n)
	if a == nil || why != api.OK {
		t.Fatalf("New(%d): %v, %v", n, a, why)
	}
	return a
}

func take(t *testing.T, a *arena.Arena, v int64) handle {
	t.Helper()
	h, why := a.Take(v)
	if why != api.OK {
		t.Fatalf("Take(%d): %v, %v", v, h, why)
	}
	return h
}

func free(t *testing.T, a *arena.Arena, handles ...handle) {
	t.Helper()
	for _, h := range handles {
		if why := a.Free(h); why != api.OK {
			t.Fatalf("Free(%v): %v", h, why)
		}
	}
}

func holds(t *testing.T, a *arena.Arena, h handle, want int64) {
	t.Helper()
	if v, why := a.Get(h); v != want || why != api.OK {
		t.Errorf("Get(%v): %d, %v, want %d", h, v, why, want)
	}
}

// refused asks Free, Get and Set for h, each of which must answer want and nothing else.
func refused(t *testing.T, a *arena.Arena, h handle, want api.Errno) {
	t.Helper()
	if v, why := a.Get(h); v != 0 || why != want {
		t.Errorf("Get(%v): %d, %v", h, v, why)
	}
	if why := a.Set(h, 77); why != want {
		t.Errorf("Set(%v): %v", h, why)
	}
	if why := a.Free(h); why != want {
		t.Errorf("Free(%v): %v", h, why)
	}
}

// P3.1: how many slots there may be; all of a new arena are free.
func TestNewTakesOneToMaxSlots(t *testing.T) {
	for n := 1; n <= api.MaxSlots; n++ {
		a := made(t, n)
		if a.Left() != n || len(a.Live()) != 0 || a.Stale() != 0 {
			t.Errorf("New(%d): %d, %v, %d", n, a.Left(), a.Live(), a.Stale())
		}
	}
	for _, n := range []int{0, -1, -2, api.MaxSlots + 1, -api.MaxSlots, 1 << 32, 1<<32 + 1, math.MaxInt, math.MinInt, math.MinInt + 1} {
		if a, why := arena.New(n); a != nil || why != api.ErrArg {
			t.Errorf("New(%d): %v, %v", n, a, why)
		}
	}
}

// P3.1: slots that never were taken come by number; when none is free, Take is refused and turns nothing.
func TestTakeTillItIsFull(t *testing.T) {
	for _, n := range []int{1, 2, 3, api.MaxSlots} {
		a := made(t, n)
		var all []handle
		for i := range n {
			h := take(t, a, int64(i)*10)
			if all = append(all, h); h != (handle{Slot: i, Gen: 1}) || a.Left() != n-i-1 {
				t.Fatalf("%d slots: Take %d: %v, %d left", n, i, h, a.Left())
			}
		}
		for range 3 {
			if h, why := a.Take(99); h != (handle{}) || why != api.ErrFull {
				t.Errorf("%d slots, one more: %v, %v", n, h, why)
			}
		}
		if a.Left() != 0 || a.Stale() != 0 || !slices.Equal(a.Live(), all) {
			t.Errorf("%d slots that are full: %d, %d, %v", n, a.Left(), a.Stale(), a.Live())
		}
		for i, h := range all {
			holds(t, a, h, int64(i)*10)
		}
		free(t, a, all[n-1])
		if h := take(t, a, 99); h != (handle{Slot: n - 1, Gen: 3}) {
			t.Errorf("%d slots: what was freed when it was full: %v", n, h)
		}
	}
}

// P3.1: those that never were taken come ahead of those that were freed, whatever their numbers.
func TestNeverTakenComesFirst(t *testing.T) {
	a := made(t, 4)
	first, second := take(t, a, 1), take(t, a, 2)
	free(t, a, second, first)
	want := []handle{{Slot: 2, Gen: 1}, {Slot: 3, Gen: 1}, {Slot: 1, Gen: 3}, {Slot: 0, Gen: 3}}
	for i, w := range want {
		if h := take(t, a, int64(i)); h != w {
			t.Errorf("Take %d: %v, want %v", i, h, w)
		}
	}
}

// P3.1: slots come again in the order in which they were freed; each order of freeing five.
func TestFreedLongestAgoComesFirst(t *testing.T) {
	const n = 5
	for _, order := range orders(n) {
		a := made(t, n)
		for i := range n {
			take(t, a, int64(i))
		}
		for _, slot := range order {
			free(t, a, handle{Slot: slot, Gen: 1})
		}
		for i, slot := range order {
			if h := take(t, a, 0); h != (handle{Slot: slot, Gen: 3}) {
				t.Fatalf("freed in the order %v, Take %d: %v", order, i, h)
			}
		}
	}
}

// orders answers all orders of the numbers below n.
func orders(n int) [][]int {
	if n == 0 {
		return [][]int{nil}
	}
	var all [][]int
	for _, rest := range orders(n - 1) {
		for at := range n {
			all = append(all, slices.Insert(slices.Clone(rest), at, n-1))
		}
	}
	return all
}

// P3.1: a slot that was freed earlier, taken and freed again is one that was freed last.
func TestFreedAgainGoesBehind(t *testing.T) {
	a := made(t, 3)
	h0, h1, h2 := take(t, a, 0), take(t, a, 1), take(t, a, 2)
	free(t, a, h0, h1)
	again := take(t, a, 3)
	free(t, a, h2, again)
	for i, slot := range []int{1, 2, 0} {
		if h := take(t, a, 0); h.Slot != slot {
			t.Errorf("Take %d: %v, want slot %d", i, h, slot)
		}
	}
}

// P3.1, P3.3: a slot that is freed and taken again many times: its generation grows by two each round, and no elder handle is good.
func TestGenerationsGrow(t *testing.T) {
	const rounds = 1000
	a := made(t, 1)
	for i := range int64(rounds) {
		h := take(t, a, i)
		if h != (handle{Slot: 0, Gen: 2*i + 1}) {
			t.Fatalf("round %d: %v", i, h)
		}
		for gen := int64(-2); gen < 2*rounds; gen += 1 + i {
			if gen == h.Gen {
				continue
			}
			if v, why := a.Get(handle{Gen: gen}); v != 0 || why != api.ErrGone {
				t.Fatalf("round %d, generation %d: %d, %v", i, gen, v, why)
			}
		}
		holds(t, a, h, i)
		free(t, a, h)
	}
}

// P3.1, P3.2: generations are 64 bits wide, and a handle's are held against the slot's whole.
func TestGenerationsAreHeldWhole(t *testing.T) {
	a := made(t, 2)
	h := take(t, a, 4)
	for _, gen := range []int64{1 << 32, 1<<32 + 1, 1<<8 + 1, 1<<16 + 1, -1<<32 + 1, math.MinInt64 + 1, math.MaxInt64, math.MinInt64} {
		refused(t, a, handle{Slot: h.Slot, Gen: gen}, api.ErrGone)
	}
	holds(t, a, h, 4)
}

// P3.2: Get answers what Take and Set have put there, of its own slot alone.
func TestGetAndSet(t *testing.T) {
	a, other := made(t, 3), made(t, 3)
	h0, h1 := take(t, a, math.MinInt64), take(t, a, -1)
	o := take(t, other, 50)
	holds(t, a, h0, math.MinInt64)
	holds(t, a, h1, -1)
	for _, v := range []int64{0, 1, -1, math.MaxInt64, math.MinInt64, 1 << 32} {
		if why := a.Set(h1, v); why != api.OK {
			t.Errorf("Set(%v, %d): %v", h1, v, why)
		}
		holds(t, a, h1, v)
		holds(t, a, h1, v)
		holds(t, a, h0, math.MinInt64)
	}
	holds(t, other, o, 50)
	if a.Left() != 1 || a.Stale() != 0 || !slices.Equal(a.Live(), []handle{h0, h1}) {
		t.Error(a.Left(), a.Stale(), a.Live())
	}
}

// P3.2: a slot that is taken again holds what this Take gave, 0 too.
func TestTakenAgainHoldsTheNew(t *testing.T) {
	a := made(t, 1)
	for _, v := range []int64{9, 0, -3, 0} {
		h := take(t, a, v)
		holds(t, a, h, v)
		a.Set(h, 8)
		free(t, a, h)
	}
}

// P3.2: slots that are not there: ErrArg, whatever the generation; that is not Stale.
func TestNoSuchSlot(t *testing.T) {
	for _, n := range []int{1, 2, api.MaxSlots} {
		a := made(t, n)
		for i := range n / 2 {
			take(t, a, int64(i))
		}
		live := a.Live()
		for _, slot := range []int{-1, -2, -n, n, n + 1, api.MaxSlots, 1 << 32, math.MaxInt, math.MinInt} {
			for _, gen := range []int64{0, 1, 2, 3, -1, math.MaxInt64, math.MinInt64} {
				refused(t, a, handle{Slot: slot, Gen: gen}, api.ErrArg)
			}
		}
		if a.Stale() != 0 || a.Left() != n-n/2 || !slices.Equal(a.Live(), live) {
			t.Errorf("%d slots: %d, %d, %v", n, a.Stale(), a.Left(), a.Live())
		}
	}
}

// P3.2: a slot that is there and not live with that generation: ErrGone. A free slot is none, with its own generation neither.
func TestNotLiveWithThatGeneration(t *testing.T) {
	a := made(t, 4)
	for range 3 {
		take(t, a, 6)
	}
	free(t, a, handle{Slot: 1, Gen: 1}, handle{Slot: 2, Gen: 1})
	take(t, a, 7)
	take(t, a, 8) // slot 0 has the generation 1, slot 1 has 3, slot 2 has 2, slot 3 has 1
	good := []int64{1, 3, -1, 1}
	for slot, live := range good {
		for gen := int64(-5); gen <= 7; gen++ {
			if gen != live || live < 0 {
				refused(t, a, handle{Slot: slot, Gen: gen}, api.ErrGone)
			}
		}
	}
	if !slices.Equal(a.Live(), []handle{{0, 1}, {1, 3}, {3, 1}}) || a.Left() != 1 {
		t.Error(a.Live(), a.Left())
	}
}

// Example 1: the zero handle names slot 0, which is free, was never taken, is live or was freed.
func TestZeroHandle(t *testing.T) {
	a := made(t, 1)
	refused(t, a, handle{}, api.ErrGone)
	h := take(t, a, 3)
	refused(t, a, handle{}, api.ErrGone)
	free(t, a, h)
	refused(t, a, handle{}, api.ErrGone)
	if a.Stale() != 9 {
		t.Error(a.Stale())
	}
}

// Examples 2 and 3: Free twice; each call with such a handle is counted, the same one again too, and no other call is.
func TestStaleCountsCalls(t *testing.T) {
	a := made(t, 2)
	h := take(t, a, 5)
	want := 0
	count := func(what string, why, must api.Errno, grows int) {
		t.Helper()
		if want += grows; why != must || a.Stale() != want || a.Stale() != want {
			t.Errorf("%s: %v, %d, want %v, %d", what, why, a.Stale(), must, want)
		}
	}
	get := func(h handle) api.Errno {
		_, why := a.Get(h)
		return why
	}
	takes := func() api.Errno {
		_, why := a.Take(1)
		return why
	}
	count("Get of a live one", get(h), api.OK, 0)
	count("Set of a live one", a.Set(h, 6), api.OK, 0)
	count("Free of a live one", a.Free(h), api.OK, 0)
	count("Free again", a.Free(h), api.ErrGone, 1)
	count("Free again", a.Free(h), api.ErrGone, 1)
	count("Get", get(h), api.ErrGone, 1)
	count("Set", a.Set(h, 6), api.ErrGone, 1)
	count("one that never was", get(handle{Slot: 1, Gen: 1}), api.ErrGone, 1)
	count("no such slot", get(handle{Slot: 2, Gen: 1}), api.ErrArg, 0)
	count("no such slot", a.Set(handle{Slot: -1}, 1), api.ErrArg, 0)
	count("no such slot", a.Free(handle{Slot: -1}), api.ErrArg, 0)
	count("Take", takes(), api.OK, 0)
	count("Take", takes(), api.OK, 0)
	count("Take of a full one", takes(), api.ErrFull, 0)
	a.Live()
	a.Left()
	count("an elder one", get(h), api.ErrGone, 1)
	if other := made(t, 2); other.Stale() != 0 {
		t.Error("another arena's")
	}
}

// R3: a refused call turns nothing but Stale: neither what live slots hold nor which slot comes next.
func TestRefusedTurnsNothingElse(t *testing.T) {
	a, twin := made(t, 3), made(t, 3)
	for _, x := range []*arena.Arena{a, twin} {
		take(t, x, 10)
		take(t, x, 11)
		free(t, x, handle{Slot: 0, Gen: 1})
	}
	wrong := []handle{{}, {0, 1}, {0, 2}, {0, 3}, {1, 0}, {1, 2}, {1, 3}, {2, 0}, {2, 1}, {-1, 1}, {3, 1}}
	for round := range 6 {
		for _, h := range wrong {
			if !slices.Contains(twin.Live(), h) {
				a.Get(h)
				a.Set(h, 500)
				a.Free(h)
			}
		}
		if a.Left() == 0 {
			a.Take(500)
		}
		if !slices.Equal(a.Live(), twin.Live()) || a.Left() != twin.Left() {
			t.Fatalf("round %d: %v, %d", round, a.Live(), a.Left())
		}
		for _, h := range twin.Live() {
			v, _ := twin.Get(h)
			holds(t, a, h, v)
		}
		h, why := a.Take(int64(round))
		if h1, why1 := twin.Take(int64(round)); h != h1 || why != why1 {
			t.Fatalf("round %d: Take: %v, %v, want %v, %v", round, h, why, h1, why1)
		}
	}
	if twin.Stale() != 0 {
		t.Error(twin.Stale())
	}
}

// P3.2: Live is by Slot, not by the order in which they were taken.
func TestLiveIsBySlot(t *testing.T) {
	a := made(t, 4)
	for range 4 {
		take(t, a, 1)
	}
	free(t, a, handle{3, 1}, handle{0, 1}, handle{2, 1})
	take(t, a, 2)
	take(t, a, 3)
	if !slices.Equal(a.Live(), []handle{{0, 3}, {1, 1}, {3, 3}}) || a.Left() != 1 {
		t.Error(a.Live(), a.Left())
	}
}

// R2: each answer of Live is new memory, its spare room too.
func TestLiveIsNewMemory(t *testing.T) {
	bad := handle{Slot: 99, Gen: 99}
	for _, n := range []int{1, 3, api.MaxSlots} {
		a := made(t, n)
		for taken := 0; taken <= n; taken++ {
			want := slices.Clone(a.Live())
			one, two := a.Live(), a.Live()
			one = one[:cap(one)]
			for i := range one {
				one[i] = bad
			}
			if !slices.Equal(two, want) || !slices.Equal(a.Live(), want) || slices.Contains(two[:cap(two)], bad) {
				t.Errorf("%d of %d slots: writing an answer changed another one or the arena", taken, n)
			}
			if taken < n {
				take(t, a, 1)
			}
			if !slices.Equal(two, want) {
				t.Errorf("%d of %d slots: Take changed an elder answer", taken, n)
			}
		}
		elder := a.Live()
		want := slices.Clone(elder)
		free(t, a, elder[0])
		if !slices.Equal(elder, want) {
			t.Errorf("%d slots: Free changed an elder answer", n)
		}
	}
}

// The chapter's runs.
func TestRuns(t *testing.T) {
	a := made(t, 2)
	one, two := take(t, a, 5), take(t, a, 6)
	if h, why := a.Take(7); one != (handle{0, 1}) || two != (handle{1, 1}) || h != (handle{}) || why != api.ErrFull {
		t.Error(one, two, h, why)
	}
	free(t, a, one)
	if v, why := a.Get(one); v != 0 || why != api.ErrGone {
		t.Error(v, why)
	}
	if h := take(t, a, 9); h != (handle{0, 3}) {
		t.Error(h)
	}
}
