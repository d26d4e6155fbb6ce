package lru_test

import (
	"math"
	"slices"
	"strconv"
	"strings"
	"testing"

	"warren/api"
	"warren/lru"
)

func made(t *testing.T, most int) *lru.List {
	t.Helper()
	l, why := lru.New(most)
	if l == nil || why != api.OK {
		t.Fatalf("New(%d): %v, %v", most, l, why)
	}
	return l
}

// filled makes a list that each of the keys was used in, none of which goes.
func filled(t *testing.T, most int, keys ...string) *lru.List {
	t.Helper()
	l := made(t, most)
	stay(t, l, keys...)
	return l
}

// stay uses the keys, for none of which one may go.
func stay(t *testing.T, l *lru.List, keys ...string) {
	t.Helper()
	for _, k := range keys {
		if gone, ok := l.Use(k); gone != "" || ok {
			t.Fatalf("Use(%q): %q, %v", k, gone, ok)
		}
	}
}

// goes uses the key, for which that one must go.
func goes(t *testing.T, l *lru.List, key, want string) {
	t.Helper()
	if gone, ok := l.Use(key); gone != want || !ok {
		t.Fatalf("Use(%q): %q, %v, want %q", key, gone, ok, want)
	}
}

func pin(t *testing.T, l *lru.List, keys ...string) {
	t.Helper()
	for _, k := range keys {
		if !l.Pin(k) {
			t.Fatalf("Pin(%q): false", k)
		}
	}
}

func unpin(t *testing.T, l *lru.List, keys ...string) {
	t.Helper()
	for _, k := range keys {
		if !l.Unpin(k) {
			t.Fatalf("Unpin(%q): false", k)
		}
	}
}

func notPinned(t *testing.T, l *lru.List, keys ...string) {
	t.Helper()
	for _, k := range keys {
		if l.Unpin(k) {
			t.Fatalf("Unpin(%q): true", k)
		}
	}
}

func drop(t *testing.T, l *lru.List, keys ...string) {
	t.Helper()
	for _, k := range keys {
		if !l.Drop(k) {
			t.Fatalf("Drop(%q): false", k)
		}
	}
}

// is holds a list of an answer against what it must be; nil and empty are the same.
func is(t *testing.T, what string, got []string, want ...string) {
	t.Helper()
	if !slices.Equal(got, want) {
		t.Errorf("%s: %q, want %q", what, got, want)
	}
}

// holds asks the list for all that it tells of its keys, the one that was used longest ago first.
func holds(t *testing.T, l *lru.List, keys ...string) {
	t.Helper()
	if l.Len() != len(keys) {
		t.Errorf("Len: %d, want %d", l.Len(), len(keys))
	}
	for _, k := range keys {
		if !l.Has(k) {
			t.Errorf("Has(%q): false", k)
		}
	}
	is(t, "Oldest", l.Oldest(math.MaxInt), keys...)
}

func lacks(t *testing.T, l *lru.List, keys ...string) {
	t.Helper()
	for _, k := range keys {
		if l.Has(k) {
			t.Errorf("Has(%q): true", k)
		}
	}
}

// numbered answers the texts of the numbers from first to end - 1.
func numbered(first, end int) []string {
	var keys []string
	for i := first; i < end; i++ {
		keys = append(keys, strconv.Itoa(i))
	}
	return keys
}

// P6.1: how many keys a list may be made for; a new one has none.
func TestNewTakesOneToMaxSlots(t *testing.T) {
	for n := 1; n <= api.MaxSlots; n++ {
		l := made(t, n)
		holds(t, l)
		lacks(t, l, "", "a", "0")
		is(t, "Shrink", l.Shrink(9))
	}
	for _, n := range []int{0, -1, -2, -api.MaxSlots, api.MaxSlots + 1, api.MaxSlots + 2, 128, 256, 1 << 31, 1 << 32, 1<<32 + 1, math.MaxInt, math.MinInt, math.MinInt + 1} {
		if l, why := lru.New(n); l != nil || why != api.ErrArg {
			t.Errorf("New(%d): %v, %v", n, l, why)
		}
	}
}

// The chapter's runs.
func TestRuns(t *testing.T) {
	l := filled(t, 2, "a", "b", "a")
	goes(t, l, "c", "b")
	holds(t, l, "a", "c")

	l = filled(t, 5, "b", "a", "c", "d")
	pin(t, l, "a")
	is(t, "Shrink(9)", l.Shrink(9), "b", "c", "d")
	holds(t, l, "a")
}

// P6.1: of every size, as many keys as most stay, and one more lets the first go, round after round.
func TestMostKeysStay(t *testing.T) {
	for most := 1; most <= api.MaxSlots; most++ {
		l := filled(t, most, numbered(0, most)...)
		holds(t, l, numbered(0, most)...)
		for i := range 3 * most {
			goes(t, l, strconv.Itoa(most+i), strconv.Itoa(i))
			holds(t, l, numbered(i+1, most+i+1)...)
			lacks(t, l, strconv.Itoa(i))
		}
	}
}

// P6.1: a list of one key has the one that was used last.
func TestListOfOneKey(t *testing.T) {
	l := filled(t, 1, "a", "a")
	holds(t, l, "a")
	goes(t, l, "b", "a")
	stay(t, l, "b")
	goes(t, l, "a", "b")
	holds(t, l, "a")
	pin(t, l, "a")
	stay(t, l, "b")
	holds(t, l, "a", "b")
	// The used one does not go, though it is the only one that is not pinned.
	stay(t, l, "b")
	goes(t, l, "c", "b")
	unpin(t, l, "a")
	goes(t, l, "c", "a")
	holds(t, l, "c")
}

// P6.1, example 1: Use of what is there moves it behind all others, from wherever it stands, and lets nothing go.
func TestUseOfWhatIsThereMovesIt(t *testing.T) {
	all := numbered(0, 5)
	for i, k := range all {
		for _, most := range []int{5, 6, api.MaxSlots} {
			l := filled(t, most, all...)
			stay(t, l, k)
			want := append(slices.Delete(slices.Clone(all), i, i+1), k)
			holds(t, l, want...)
			stay(t, l, k, k)
			holds(t, l, want...)
			stay(t, l, want[0])
			holds(t, l, append(slices.Clone(want[1:]), want[0])...)
		}
	}
}

// P6.1: which key goes hangs on its last use, not on when it came, nor on its text.
func TestWhatWasUsedLongestAgoGoes(t *testing.T) {
	l := filled(t, 4, "d", "b", "c", "a", "b", "d", "b")
	holds(t, l, "c", "a", "d", "b")
	goes(t, l, "e", "c")
	goes(t, l, "c", "a")
	stay(t, l, "d")
	goes(t, l, "f", "b")
	goes(t, l, "g", "e")
	goes(t, l, "h", "c")
	goes(t, l, "i", "d")
	holds(t, l, "f", "g", "h", "i")
}

// P6.1: a key that went is as one that never was there.
func TestKeyThatWentComesAgain(t *testing.T) {
	l := filled(t, 2, "a", "b")
	goes(t, l, "c", "a")
	lacks(t, l, "a")
	if l.Pin("a") || l.Unpin("a") || l.Drop("a") {
		t.Error("a went and is there")
	}
	goes(t, l, "a", "b")
	holds(t, l, "c", "a")
	is(t, "Shrink", l.Shrink(1), "c")
	stay(t, l, "c")
	holds(t, l, "a", "c")
}

// P6.1: pinned keys are passed over; the first that is not goes, wherever it stands.
func TestPinnedKeysDoNotGo(t *testing.T) {
	all := numbered(0, 6)
	for free := range all {
		l := filled(t, 6, all...)
		for i, k := range all {
			if i != free {
				pin(t, l, k)
			}
		}
		goes(t, l, "x", all[free])
		holds(t, l, append(slices.Delete(slices.Clone(all), free, free+1), "x")...)
		// x itself is the only one now that is not pinned, and goes for the next.
		goes(t, l, "y", "x")
	}
	for pins := range len(all) {
		l := filled(t, 6, all...)
		pin(t, l, all[:pins]...)
		goes(t, l, "x", all[pins])
	}
}

// P6.1: with all keys pinned none goes, and the list is longer by each new key that is pinned too.
func TestAllPinnedIsLonger(t *testing.T) {
	for _, most := range []int{1, 2, 7, api.MaxSlots} {
		l := made(t, most)
		for i, k := range numbered(0, 3*most+5) {
			stay(t, l, k)
			pin(t, l, k)
			if l.Len() != i+1 {
				t.Fatalf("most %d: Len: %d, want %d", most, l.Len(), i+1)
			}
		}
		holds(t, l, numbered(0, 3*most+5)...)
		stay(t, l, numbered(0, 3*most+5)...)
		holds(t, l, numbered(0, 3*most+5)...)
	}
}

// P6.1: a list may be much longer than MaxSlots, and no limit of keys refuses.
func TestMuchLonger(t *testing.T) {
	const keys = 20 * api.MaxSlots
	l := made(t, api.MaxSlots)
	for _, k := range numbered(0, keys) {
		stay(t, l, k)
		pin(t, l, k)
	}
	is(t, "Shrink", l.Shrink(math.MaxInt))
	holds(t, l, numbered(0, keys)...)
	unpin(t, l, numbered(0, keys)...)
	is(t, "Shrink", l.Shrink(keys-api.MaxSlots), numbered(0, keys-api.MaxSlots)...)
	stay(t, l, strconv.Itoa(keys-1))
	goes(t, l, "x", strconv.Itoa(keys-api.MaxSlots))
}

// P6.1: at a Use no more than one key goes, however many there are too many; a Use of what is there lets one go, too, and one with all others pinned lets none.
func TestOneGoesAtAUse(t *testing.T) {
	long := func() *lru.List {
		l := made(t, 2)
		for _, k := range numbered(0, 6) {
			stay(t, l, k)
			pin(t, l, k)
		}
		return l
	}
	l := long()
	unpin(t, l, numbered(0, 6)...)
	goes(t, l, "x", "0")
	holds(t, l, "1", "2", "3", "4", "5", "x")
	goes(t, l, "1", "2")
	holds(t, l, "3", "4", "5", "x", "1")
	goes(t, l, "1", "3")
	goes(t, l, "1", "4")
	goes(t, l, "1", "5")
	holds(t, l, "x", "1")
	stay(t, l, "1", "x")

	l = long()
	unpin(t, l, "3")
	// The one that could go is the used one.
	stay(t, l, "3")
	holds(t, l, "0", "1", "2", "4", "5", "3")
	goes(t, l, "0", "3")
	stay(t, l, "x")
	holds(t, l, "1", "2", "4", "5", "0", "x")
}

// P6.1: of the used key's pins none is lost, and none is made.
func TestUseKeepsPins(t *testing.T) {
	l := filled(t, 3, "a", "b", "c")
	pin(t, l, "b", "b", "b")
	stay(t, l, "b", "a", "b")
	holds(t, l, "c", "a", "b")
	unpin(t, l, "b", "b")
	stay(t, l, "b")
	unpin(t, l, "b")
	notPinned(t, l, "b", "a", "c")
	stay(t, l, "b", "b")
	notPinned(t, l, "b")
	goes(t, l, "d", "c")
	goes(t, l, "e", "a")
	goes(t, l, "f", "b")
}

// P6.1: the empty key is one as all others; that it went is told by the true beside it.
func TestEmptyKey(t *testing.T) {
	l := made(t, 1)
	lacks(t, l, "")
	if l.Drop("") || l.Pin("") || l.Unpin("") {
		t.Error("an empty key that is not there")
	}
	stay(t, l, "", "")
	holds(t, l, "")
	goes(t, l, "a", "")
	lacks(t, l, "")
	goes(t, l, "", "a")
	pin(t, l, "")
	stay(t, l, "a")
	goes(t, l, "b", "a")
	holds(t, l, "", "b")
	is(t, "Shrink", l.Shrink(2), "b")
	unpin(t, l, "")
	notPinned(t, l, "")
	is(t, "Shrink", l.Shrink(2), "")
	holds(t, l)
	stay(t, l, "")
	drop(t, l, "")
	holds(t, l)
}

// P6.1: keys are held against each other whole, byte by byte.
func TestAnyTextIsAKey(t *testing.T) {
	long := strings.Repeat("k", 5000)
	keys := []string{"", "\x00", "\x00\x00", "a", "A", "a\x00", "aa", " a", "a ", "\xff", "\xc3\xa9", "e\xcc\x81", "\xc3", long, long + "k", "/", ".."}
	l := filled(t, len(keys), keys...)
	holds(t, l, keys...)
	lacks(t, l, "\x00\x00\x00", "b", "AA", "\xfe", long[1:], "a\x00\x00")
	for i, k := range keys {
		if !l.Pin(k) || !l.Unpin(k) || l.Unpin(k) || !l.Drop(k) || l.Drop(k) {
			t.Errorf("key %d: %q", i, k)
		}
		holds(t, l, keys[i+1:]...)
	}
}

// P6.1: Drop of one that is there, from wherever it stands; of one that is not; twice.
func TestDrop(t *testing.T) {
	all := numbered(0, 5)
	for i, k := range all {
		l := filled(t, 5, all...)
		if l.Drop("x") || l.Drop("") {
			t.Error("Drop of one that is not there: true")
		}
		holds(t, l, all...)
		drop(t, l, k)
		left := slices.Delete(slices.Clone(all), i, i+1)
		holds(t, l, left...)
		lacks(t, l, k)
		if l.Drop(k) {
			t.Error("Drop twice: true")
		}
		holds(t, l, left...)
		// There is room for one, and the dropped one comes back behind all others.
		stay(t, l, k)
		holds(t, l, append(left, k)...)
		goes(t, l, "x", append(left, k)[0])
	}
	l := filled(t, 3, "a", "b", "c")
	drop(t, l, "b", "c", "a")
	holds(t, l)
	if l.Drop("a") {
		t.Error("Drop of a list without keys: true")
	}
}

// P6.1, example 3: a pinned key is dropped as all others, however often it is pinned, and comes back without pins.
func TestDropForgetsPins(t *testing.T) {
	for _, pins := range []int{1, 2, 300} {
		l := filled(t, 2, "a", "b")
		for range pins {
			pin(t, l, "a")
		}
		drop(t, l, "a")
		lacks(t, l, "a")
		notPinned(t, l, "a")
		if l.Pin("a") || l.Drop("a") {
			t.Error("a dropped key is there")
		}
		stay(t, l, "a")
		notPinned(t, l, "a")
		goes(t, l, "c", "b")
		goes(t, l, "d", "a")
		// Pinned anew it counts from none on.
		goes(t, l, "a", "c")
		pin(t, l, "a")
		unpin(t, l, "a")
		notPinned(t, l, "a")
	}
}

// P6.1: of a list that is longer than most, Drop and Unpin let nothing go by themselves.
func TestOnlyUseAndShrinkLetGo(t *testing.T) {
	l := filled(t, 1, "a")
	pin(t, l, "a")
	stay(t, l, "b")
	pin(t, l, "b")
	stay(t, l, "c")
	pin(t, l, "c")
	unpin(t, l, "a", "b", "c")
	holds(t, l, "a", "b", "c")
	if l.Drop("x") || l.Pin("x") || l.Unpin("x") || l.Unpin("a") {
		t.Error("of none: true")
	}
	holds(t, l, "a", "b", "c")
	drop(t, l, "b")
	holds(t, l, "a", "c")
	goes(t, l, "c", "a")
	stay(t, l, "c")
}

// P6.1, P6.2: Has, Pin, Unpin, Oldest and Len use nothing.
func TestAskingUsesNothing(t *testing.T) {
	l := filled(t, 3, "a", "b", "c")
	for range 3 {
		for _, k := range []string{"a", "x", "b", ""} {
			l.Has(k)
			if l.Pin(k) {
				unpin(t, l, k)
			}
			l.Oldest(1)
			l.Len()
		}
	}
	holds(t, l, "a", "b", "c")
	lacks(t, l, "x", "")
	goes(t, l, "d", "a")
	l.Has("b")
	goes(t, l, "e", "b")
}

// P6.2: Pin and Unpin: of those that are not there, of one that is pinned more than once, of what is not pinned (example 2).
func TestPinAndUnpin(t *testing.T) {
	l := filled(t, 2, "a", "b")
	if l.Pin("x") || l.Unpin("x") || l.Pin("") {
		t.Error("of one that is not there: true")
	}
	// A Pin that was refused is not counted once the key comes.
	goes(t, l, "x", "a")
	notPinned(t, l, "x", "b", "a")
	for _, times := range []int{1, 2, 3, 255, 256, 257, 1 << 16, 1<<16 + 1} {
		for range times {
			pin(t, l, "x")
		}
		goes(t, l, "y", "b")
		for range times {
			is(t, "Shrink", l.Shrink(0))
			unpin(t, l, "x")
		}
		notPinned(t, l, "x", "x", "y")
		// Unpin that was refused counts nothing below none.
		pin(t, l, "x")
		is(t, "Shrink", l.Shrink(2), "y")
		unpin(t, l, "x")
		stay(t, l, "x", "b", "x")
	}
}

// P6.2: a key stays pinned until the last of its pins is taken.
func TestPinnedUntilTheLastUnpin(t *testing.T) {
	for pins := 1; pins <= 5; pins++ {
		l := filled(t, 1, "a")
		for range pins {
			pin(t, l, "a")
		}
		stay(t, l, "b")
		for range pins {
			is(t, "Shrink", l.Shrink(9), "b")
			stay(t, l, "b", "b")
			unpin(t, l, "a")
		}
		goes(t, l, "b", "a")
		holds(t, l, "b")
	}
}

// P6.2: Oldest of all numbers, below 0 and past the end too, of pinned keys as of the others.
func TestOldest(t *testing.T) {
	for most := 1; most <= api.MaxSlots; most++ {
		all := numbered(0, most)
		l := filled(t, most, all...)
		pin(t, l, "0")
		for n := range most {
			is(t, "Oldest", l.Oldest(n), all[:n]...)
		}
		for _, n := range []int{most, most + 1, 65, 1 << 31, 1 << 32, math.MaxInt} {
			is(t, "Oldest", l.Oldest(n), all...)
		}
		for _, n := range []int{0, -1, -2, -most, -1 << 32, math.MinInt, math.MinInt + 1} {
			is(t, "Oldest", l.Oldest(n))
		}
		holds(t, l, all...)
	}
	for _, n := range []int{math.MinInt, -1, 0, 1, math.MaxInt} {
		is(t, "Oldest of none", made(t, 3).Oldest(n))
	}
}

// P6.2: Shrink of all numbers, below 0 and past the end too.
func TestShrink(t *testing.T) {
	for most := 1; most <= api.MaxSlots; most++ {
		all := numbered(0, most)
		for _, n := range []int{0, -1, -2, -most, -1 << 32, math.MinInt, math.MinInt + 1} {
			l := filled(t, most, all...)
			is(t, "Shrink", l.Shrink(n))
			holds(t, l, all...)
		}
		for n := range most + 1 {
			l := filled(t, most, all...)
			is(t, "Shrink", l.Shrink(n), all[:n]...)
			holds(t, l, all[n:]...)
			lacks(t, l, all[:n]...)
			// There is room for as many as went.
			stay(t, l, all[:n]...)
			goes(t, l, "x", append(slices.Clone(all[n:]), all[:n]...)[0])
		}
		for _, n := range []int{most + 1, 65, 1 << 31, 1 << 32, math.MaxInt} {
			l := filled(t, most, all...)
			is(t, "Shrink", l.Shrink(n), all...)
			holds(t, l)
			is(t, "Shrink again", l.Shrink(n))
			stay(t, l, all...)
		}
	}
}

// P6.2: Shrink passes over pinned keys, which do not count and keep their pins and their order.
func TestShrinkPassesOverPinned(t *testing.T) {
	all := numbered(0, 6)
	for set := range 1 << len(all) {
		for n := range len(all) + 2 {
			l := filled(t, len(all), all...)
			var gone, left []string
			for i, k := range all {
				switch pinned := set>>i&1 == 1; {
				case pinned:
					pin(t, l, k)
					left = append(left, k)
				case len(gone) < n:
					gone = append(gone, k)
				default:
					left = append(left, k)
				}
			}
			is(t, "Shrink", l.Shrink(n), gone...)
			holds(t, l, left...)
			for i, k := range all {
				if l.Unpin(k) != (set>>i&1 == 1) {
					t.Fatalf("pins %b, Shrink(%d): Unpin(%q)", set, n, k)
				}
			}
		}
	}
}

// P6.2: in a list that is longer than most Shrink goes by n alone.
func TestShrinkOfALongerList(t *testing.T) {
	l := made(t, 2)
	for _, k := range numbered(0, 7) {
		stay(t, l, k)
		pin(t, l, k)
	}
	unpin(t, l, "1", "2", "5", "6")
	is(t, "Shrink(1)", l.Shrink(1), "1")
	is(t, "Shrink(2)", l.Shrink(2), "2", "5")
	holds(t, l, "0", "3", "4", "6")
	is(t, "Shrink(9)", l.Shrink(9), "6")
	is(t, "Shrink(9)", l.Shrink(9))
	holds(t, l, "0", "3", "4")
}

// P6.1: two lists have nothing to do with each other.
func TestListsApart(t *testing.T) {
	x, y := filled(t, 2, "a", "b"), filled(t, 2, "b")
	pin(t, x, "b")
	notPinned(t, y, "b")
	stay(t, y, "c")
	goes(t, y, "d", "b")
	holds(t, x, "a", "b")
	drop(t, x, "a")
	holds(t, y, "c", "d")
	is(t, "Shrink", y.Shrink(9), "c", "d")
	holds(t, x, "b")
}

// R2: what Oldest answers is new memory each time, its spare room too, and later calls leave it alone.
func TestOldestAnswersNewMemory(t *testing.T) {
	l := made(t, 40)
	for i, k := range numbered(0, 40) {
		stay(t, l, k)
		for _, n := range []int{1, 2, i, i + 1, math.MaxInt} {
			want := slices.Clone(l.Oldest(n))
			one, two := l.Oldest(n), l.Oldest(n)
			spoil(one)
			is(t, "another answer", two, want...)
			is(t, "a later answer", l.Oldest(n), want...)
			if slices.Contains(two[:cap(two)], "spoilt") {
				t.Error("two answers share room")
			}
		}
		holds(t, l, numbered(0, i+1)...)
	}
	all, some := l.Oldest(99), l.Oldest(7)
	stay(t, l, "0", "3", "1")
	drop(t, l, "2", "5")
	l.Shrink(3)
	for _, k := range numbered(100, 150) {
		l.Use(k)
	}
	is(t, "an elder answer", all, numbered(0, 40)...)
	is(t, "an elder answer", some, numbered(0, 7)...)
}

// R2: of Shrink, which can't be asked twice: no answer is changed by a later call, or by one who writes another answer, and none is what is kept.
func TestShrinkAnswersNewMemory(t *testing.T) {
	l := made(t, api.MaxSlots)
	var answers, want [][]string
	for round := range 20 {
		stay(t, l, numbered(0, 30)...)
		pin(t, l, "7", "29")
		oldest := l.Oldest(99)
		x := l.Shrink(round)
		answers, want = append(answers, x), append(want, slices.Clone(x))
		left := l.Oldest(99)
		spoil(x[len(x):])
		is(t, "what is left", l.Oldest(99), left...)
		if len(x) != round || len(left) != 30-round {
			t.Fatalf("Shrink(%d): %q of %q", round, x, oldest)
		}
		unpin(t, l, "7", "29")
	}
	for i, x := range answers {
		is(t, "an elder answer of Shrink", x, want[i]...)
		left := l.Oldest(99)
		spoil(x)
		is(t, "what is left", l.Oldest(99), left...)
	}
}

func spoil(list []string) {
	list = list[:cap(list)]
	for i := range list {
		list[i] = "spoilt"
	}
}
