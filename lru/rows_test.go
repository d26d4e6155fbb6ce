package lru_test

import (
	"cmp"
	"math"
	"math/rand"
	"slices"
	"strconv"
	"testing"

	"warren/api"
	"warren/lru"
)

// Kinds of calls that a row is made of.
const (
	asUse = iota
	asDrop
	asPin
	asUnpin
	asShrink
)

// ask is one call of a row; n is that of a Shrink.
type ask struct {
	kind int
	key  string
	n    int
}

// answer is what a call answers, the fields that its kind does not have being zero.
type answer struct {
	ok   bool
	keys []string // what went by Use or Shrink
}

func (x answer) same(y answer) bool { return x.ok == y.ok && slices.Equal(x.keys, y.keys) }

func play(l *lru.List, c ask) (x answer) {
	switch c.kind {
	case asUse:
		gone, ok := l.Use(c.key)
		x.ok = ok
		if ok || gone != "" {
			x.keys = []string{gone}
		}
	case asDrop:
		x.ok = l.Drop(c.key)
	case asPin:
		x.ok = l.Pin(c.key)
	case asUnpin:
		x.ok = l.Unpin(c.key)
	case asShrink:
		x.keys = l.Shrink(c.n)
	}
	return x
}

// told is the chapter's words, without a row of keys: of each key that is there the moment of its last use and its pins.
type told struct {
	most, moment int
	used, pins   map[string]int
}

func telling(most int) *told {
	return &told{most: most, used: map[string]int{}, pins: map[string]int{}}
}

func (w *told) has(key string) bool {
	_, there := w.used[key]
	return there
}

// sorted answers the keys that are there by their moments.
func (w *told) sorted() []string {
	var keys []string
	for k := range w.used {
		keys = append(keys, k)
	}
	slices.SortFunc(keys, func(a, b string) int { return cmp.Compare(w.used[a], w.used[b]) })
	return keys
}

// forget lets the first n go of those that are not pinned and not the key that is kept, if there is one.
func (w *told) forget(n int, kept ...string) []string {
	var gone []string
	for _, k := range w.sorted() {
		if len(gone) < n && w.pins[k] == 0 && !slices.Contains(kept, k) {
			gone = append(gone, k)
			delete(w.used, k)
		}
	}
	return gone
}

func (w *told) play(c ask) answer {
	w.moment++
	there := w.has(c.key)
	switch c.kind {
	case asUse:
		w.used[c.key] = w.moment
		if len(w.used) <= w.most {
			return answer{}
		}
		gone := w.forget(1, c.key)
		return answer{ok: len(gone) == 1, keys: gone}
	case asShrink:
		return answer{keys: w.forget(c.n)}
	case asDrop:
		delete(w.used, c.key)
		delete(w.pins, c.key)
	case asPin:
		if there {
			w.pins[c.key]++
		}
	case asUnpin:
		if w.pins[c.key] == 0 {
			return answer{}
		}
		w.pins[c.key]--
	}
	return answer{ok: there}
}

// holdAgainst plays the row in a list and as it is told, and holds all that can be asked against each other behind each call. Another list is asked nothing between, and is given no call that answered false for there being none: R3.
func holdAgainst(t *testing.T, most int, row []ask) {
	t.Helper()
	l, quiet, w := made(t, most), made(t, most), telling(most)
	for i, c := range row {
		got, want := play(l, c), w.play(c)
		if !got.same(want) {
			t.Fatalf("most %d, %v, call %d: %v, want %v", most, row[max(0, i-9):i+1], i, got, want)
		}
		if want.ok || c.kind == asUse || c.kind == asShrink {
			if x := play(quiet, c); !x.same(want) {
				t.Fatalf("most %d, %v, call %d, nothing else asked: %v, want %v", most, row[max(0, i-9):i+1], i, x, want)
			}
		}
		keys := w.sorted()
		if !slices.Equal(l.Oldest(math.MaxInt), keys) || l.Len() != len(keys) || l.Has(c.key) != w.has(c.key) {
			t.Fatalf("most %d, %v, call %d: %q, %d, want %q", most, row[max(0, i-9):i+1], i, l.Oldest(math.MaxInt), l.Len(), keys)
		}
		if n := min(i%5, len(keys)); !slices.Equal(l.Oldest(i%5), keys[:n]) {
			t.Fatalf("most %d, %v, call %d: Oldest(%d): %q", most, row[max(0, i-9):i+1], i, i%5, l.Oldest(i%5))
		}
	}
}

// allRows goes through all rows of so many calls of the alphabet.
func allRows(alphabet []ask, calls int, each func(row []ask)) {
	row := make([]ask, calls)
	var grow func(at int)
	grow = func(at int) {
		if at == calls {
			each(row)
			return
		}
		for _, c := range alphabet {
			row[at] = c
			grow(at + 1)
		}
	}
	grow(0)
}

// alphabet: all calls of those keys.
func alphabet(keys ...string) []ask {
	all := []ask{{kind: asShrink, n: 1}}
	for _, k := range keys {
		for kind := asUse; kind <= asUnpin; kind++ {
			all = append(all, ask{kind: kind, key: k})
		}
	}
	return all
}

// P6.1, P6.2: all rows of four calls of three keys, the empty one among them, in lists of one and of two.
func TestAllShortRows(t *testing.T) {
	for most := 1; most <= 2; most++ {
		allRows(alphabet("", "a", "b"), 4, func(row []ask) { holdAgainst(t, most, row) })
	}
}

// P6.1, P6.2: all rows of Uses and Pins and what undoes them, longer ones, of two keys in a list of one.
func TestAllRowsOfTwoKeys(t *testing.T) {
	allRows(alphabet("a", "b"), 5, func(row []ask) { holdAgainst(t, 1, row) })
}

// P6.1: in all rows of six Uses of four keys, in lists of all sizes, what is there are the last different ones that were used.
func TestAllRowsOfUses(t *testing.T) {
	var uses []ask
	for _, k := range []string{"", "a", "b", "c"} {
		uses = append(uses, ask{kind: asUse, key: k})
	}
	for most := 1; most <= 5; most++ {
		allRows(uses, 6, func(row []ask) {
			l := made(t, most)
			var last []string
			for i, c := range row {
				play(l, c)
				last = last[:0]
				for j := i; j >= 0 && len(last) < most; j-- {
					if !slices.Contains(last, row[j].key) {
						last = append(last, row[j].key)
					}
				}
				slices.Reverse(last)
				if !slices.Equal(l.Oldest(9), last) {
					t.Fatalf("most %d, %v: %q, want %q", most, row[:i+1], l.Oldest(9), last)
				}
			}
		})
	}
}

// P6.3: what goes was used ahead of all that stay and are not pinned, in long rows; asked of the list alone, by the moments of its Uses.
func TestWhatGoesWasUsedAheadOfWhatStays(t *testing.T) {
	r := rand.New(rand.NewSource(63))
	for _, most := range []int{1, 2, 5, 17, api.MaxSlots} {
		l := made(t, most)
		used, pins := map[string]int{}, map[string]int{}
		for moment, c := range longRow(r, most, 3000) {
			if c.kind == asUse {
				used[c.key] = moment
			}
			x := play(l, c)
			switch {
			case c.kind == asDrop:
				pins[c.key] = 0
			case c.kind == asPin && x.ok:
				pins[c.key]++
			case c.kind == asUnpin && x.ok:
				pins[c.key]--
			}
			for _, gone := range x.keys {
				if pins[gone] > 0 || l.Has(gone) {
					t.Fatalf("most %d, call %d: %q went", most, moment, gone)
				}
				for _, k := range l.Oldest(math.MaxInt) {
					if pins[k] == 0 && used[k] <= used[gone] {
						t.Fatalf("most %d, call %d: %q went, %q stayed", most, moment, gone, k)
					}
				}
			}
		}
	}
}

// P6.1 to P6.3: long rows in lists of several sizes, now with many Pins so that the list is longer than most, now with many Unpins and Drops.
func TestLongRows(t *testing.T) {
	r := rand.New(rand.NewSource(6))
	for _, most := range []int{1, 2, 3, 5, 17, api.MaxSlots} {
		for range 10 {
			holdAgainst(t, most, longRow(r, most, 600))
		}
	}
}

func longRow(r *rand.Rand, most, calls int) []ask {
	numbers := []int{0, 1, 2, 3, most, -1, math.MinInt, math.MaxInt}
	row := make([]ask, calls)
	for i := range row {
		c := ask{kind: asUse, key: strconv.Itoa(r.Intn(2*most + 3))}
		if c.key == "0" {
			c.key = ""
		}
		many, undo := asPin, asUnpin
		if i/150%2 == 1 {
			many, undo = asUnpin, asPin
		}
		switch p := r.Intn(100); {
		case p < 25:
			c.kind = many
		case p < 35:
			c.kind = undo
		case p < 40:
			c.kind = asDrop
		case p < 43:
			c = ask{kind: asShrink, n: numbers[r.Intn(len(numbers))]}
		}
		row[i] = c
	}
	return row
}
