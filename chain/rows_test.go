package chain_test

import (
	"math/rand"
	"slices"
	"sort"
	"strconv"
	"testing"

	"warren/api"
	"warren/chain"
)

// Kinds of calls that a row is made of.
const (
	asPut = iota
	asDrop
	asLook
	asStep
)

// ask is one call of a row. n is the number of a Put, and which look a Step is of.
type ask struct {
	kind int
	key  string
	n    int64
}

// told is the chapter's words of a table, without chains: what is there, and of each look what was there for it.
type told struct {
	buckets uint32
	there   map[string]int64
	looks   []*toldLook
}

// toldLook is what P5.2 says of a look that is under way: the numbers that its key had since, whether it was there without a break and whether it ever was, and how many Steps there may be.
type toldLook struct {
	key           string
	numbers       []int64
	always, never bool
	most          int
	over          bool
	v             int64
	ok            bool
	steps         int
}

func telling(buckets int) *told {
	return &told{buckets: uint32(buckets), there: map[string]int64{}}
}

func (w *told) sameChain(a, b string) bool {
	return hashed(a)%w.buckets == hashed(b)%w.buckets
}

func (w *told) keys() []string {
	var all []string
	for k := range w.there {
		all = append(all, k)
	}
	sort.Strings(all)
	return all
}

func (w *told) put(key string, v int64) api.Errno {
	if _, ok := w.there[key]; ok {
		return api.ErrBusy
	}
	if len(w.there) == api.MaxSlots {
		return api.ErrFull
	}
	w.there[key] = v
	for _, l := range w.looks {
		if !l.over && w.sameChain(l.key, key) {
			l.most++
		}
		if !l.over && l.key == key {
			l.numbers, l.never = append(l.numbers, v), false
		}
	}
	return api.OK
}

func (w *told) drop(key string) (int64, api.Errno) {
	v, ok := w.there[key]
	if !ok {
		return 0, api.ErrGone
	}
	delete(w.there, key)
	for _, l := range w.looks {
		if !l.over && l.key == key {
			l.always = false
		}
	}
	return v, api.OK
}

func (w *told) look(key string) {
	l := &toldLook{key: key, most: 2}
	for k := range w.there {
		if w.sameChain(k, key) {
			l.most++
		}
	}
	v, ok := w.there[key]
	l.always, l.never = ok, !ok
	if ok {
		l.numbers = append(l.numbers, v)
	}
	w.looks = append(w.looks, l)
}

// stepped takes down what a Step of a look answered, and tells what of P5.2 is broken.
func (l *toldLook) stepped(got *chain.Look, over bool) string {
	v, ok := got.Found()
	if l.over {
		if !over || v != l.v || ok != l.ok || got.Steps() != l.steps {
			return "a Step behind the end does something"
		}
		return ""
	}
	l.steps++
	l.over, l.v, l.ok = over, v, ok
	switch {
	case got.Steps() != l.steps:
		return "Steps are not those that were done"
	case !ok && v != 0:
		return "a number that was not found"
	case !over && ok:
		return "found ahead of the end"
	case l.steps > l.most || l.steps == l.most && !over:
		return "too many Steps"
	case over && l.always && !ok:
		return "there all the time, and not found"
	case over && l.never && ok:
		return "never there, and found"
	case ok && !slices.Contains(l.numbers, v):
		return "found with a number that it never had"
	}
	return ""
}

// held is a table, its looks, and what is told of both.
type held struct {
	table *chain.Table
	looks []*chain.Look
	told  *told
}

func holding(t *testing.T, buckets int) *held {
	t.Helper()
	return &held{table: made(t, buckets), told: telling(buckets)}
}

// play makes the call, and tells whether it was refused, and what of the chapter is broken.
func (h *held) play(c ask) (why api.Errno, broken string) {
	var v, want int64
	var wanted api.Errno
	switch c.kind {
	case asPut:
		why, wanted = h.table.Put(c.key, c.n), h.told.put(c.key, c.n)
	case asDrop:
		v, why = h.table.Drop(c.key)
		want, wanted = h.told.drop(c.key)
	case asLook:
		h.looks = append(h.looks, h.table.Look(c.key))
		h.told.look(c.key)
	case asStep:
		l := h.looks[c.n]
		return why, h.told.looks[c.n].stepped(l, l.Step())
	}
	if v != want || why != wanted {
		broken = "answered " + strconv.FormatInt(v, 10) + " and " + strconv.Itoa(int(why)) + ", want " + strconv.FormatInt(want, 10) + " and " + strconv.Itoa(int(wanted))
	}
	return why, broken
}

// finish lets all looks go to their ends.
func (h *held) finish() (broken string) {
	for n := range h.looks {
		for !h.told.looks[n].over {
			if _, broken := h.play(ask{kind: asStep, n: int64(n)}); broken != "" {
				return broken
			}
		}
	}
	return ""
}

// asked tells what of all that a table can be asked is not as it is told.
func (h *held) asked(keys ...string) (broken string) {
	if h.table.Len() != len(h.told.there) || !slices.Equal(h.table.Keys(), h.told.keys()) {
		return "other keys are there"
	}
	for _, k := range keys {
		want, there := h.told.there[k]
		if v, ok := h.table.Get(k); v != want || ok != there {
			return "Get of " + k + " answers otherwise"
		}
	}
	return ""
}

// allRows goes through all rows of so many calls of the alphabet.
func allRows(alphabet []ask, calls int, each func(row []ask)) {
	row := make([]ask, calls)
	var grow func(at int)
	grow = func(at int) {
		if at == calls {
			each(row)
			return
		}
		for _, c := range alphabet {
			c.n += int64(100 * at) // each Put with a number of its own
			if c.kind == asStep {
				c.n = 0
			}
			row[at] = c
			grow(at + 1)
		}
	}
	grow(0)
}

// beginnings are all orders in which some of the keys can lie in one chain.
func beginnings(keys string) []string {
	all := []string{""}
	for i := range keys {
		for _, rest := range beginnings(keys[:i] + keys[i+1:]) {
			all = append(all, keys[i:i+1]+rest)
		}
	}
	return all
}

// P5.1, P5.2: in one chain of three keys, however they lie: all that can come between the Steps of a look for one of them, five calls long, and then to its end.
func TestAllThatComesBetweenSteps(t *testing.T) {
	alphabet := []ask{{asPut, "a", 1}, {asPut, "b", 2}, {asPut, "c", 3}, {kind: asDrop, key: "a"}, {kind: asDrop, key: "b"}, {kind: asDrop, key: "c"}, {kind: asStep}}
	for _, keys := range beginnings("abc") {
		allRows(alphabet, 5, func(row []ask) {
			h := holding(t, 1)
			for i := range keys {
				h.play(ask{asPut, keys[i : i+1], int64(10 + i)})
			}
			h.play(ask{kind: asLook, key: "a"})
			for i, c := range row {
				if _, broken := h.play(c); broken != "" {
					t.Fatalf("%q, %v: call %d: %s", keys, row, i, broken)
				}
			}
			if broken := h.finish() + h.asked("a", "b", "c", "d"); broken != "" {
				t.Fatalf("%q, %v: %s", keys, row, broken)
			}
		})
	}
}

// P5.2, P5.3: in a chain that a look goes along, six keys long, all pairs of moments at which two of them are Dropped, or Dropped and Put again: what is there all the time is found.
func TestTwoDropsAtAllMoments(t *testing.T) {
	const keys = "abcdef"
	for _, asked := range []string{"a", "b", "c", "d", "e", "f", "none"} {
		for one := range 36 {
			for two := range 36 {
				for again := range 4 {
					h := holding(t, 1)
					for i := len(keys) - 1; i >= 0; i-- {
						h.play(ask{asPut, keys[i : i+1], int64(i + 1)})
					}
					h.play(ask{kind: asLook, key: asked})
					for step := range 6 {
						for n, at := range []int{one, two} {
							if k := keys[at%6 : at%6+1]; at/6 == step {
								h.play(ask{kind: asDrop, key: k})
								if again>>n&1 == 1 {
									h.play(ask{asPut, k, int64(100 + n)})
								}
							}
						}
						if _, broken := h.play(ask{kind: asStep}); broken != "" {
							t.Fatalf("look for %s, drops at %d and %d, again %d: %s", asked, one, two, again, broken)
						}
					}
					if broken := h.finish() + h.asked("a", "f"); broken != "" {
						t.Fatalf("look for %s, drops at %d and %d, again %d: %s", asked, one, two, again, broken)
					}
				}
			}
		}
	}
}

// P5.1 to P5.3, R3: long rows with many looks under way, now in a table that fills, now in one that empties. A second table is asked nothing between, and is given no call that was refused: its looks go as those of the first.
func TestLongRows(t *testing.T) {
	r := rand.New(rand.NewSource(8))
	for _, buckets := range []int{1, 1, 2, 3, 5, 16, 31, 64} {
		for _, keys := range []int{3, 12, 80} {
			h, quiet := holding(t, buckets), holding(t, buckets)
			for i := range 3000 {
				c := longAsk(r, i, keys, len(h.looks))
				why, broken := h.play(c)
				if broken == "" && why == api.OK {
					_, broken = quiet.play(c)
				}
				if broken == "" && c.kind == asStep && !sameLook(h.looks[c.n], quiet.looks[c.n]) {
					broken = "a look that goes otherwise when nothing is asked and nothing refused"
				}
				broken += h.asked(c.key, strconv.Itoa(r.Intn(keys)))
				if broken != "" {
					t.Fatalf("%d chains, %d keys, call %d, %v: %s", buckets, keys, i, c, broken)
				}
			}
			if broken := h.finish() + quiet.finish() + quiet.asked(h.told.keys()...); broken != "" || !slices.Equal(h.told.keys(), quiet.told.keys()) {
				t.Fatalf("%d chains, %d keys, at the end: %s", buckets, keys, broken)
			}
		}
	}
}

func sameLook(a, b *chain.Look) bool {
	v, ok := a.Found()
	w, found := b.Found()
	return v == w && ok == found && a.Steps() == b.Steps()
}

// longAsk picks a call: of so many keys, at one of the youngest of so many looks.
func longAsk(r *rand.Rand, i, keys, looks int) ask {
	c := ask{kind: r.Intn(4), key: strconv.Itoa(r.Intn(keys)), n: r.Int63() - r.Int63()}
	if fills := i/300%2 == 0; fills && c.kind == asDrop && r.Intn(4) > 0 {
		c.kind = asPut
	} else if !fills && c.kind == asPut && r.Intn(4) > 0 {
		c.kind = asDrop
	}
	if c.kind == asStep && looks == 0 || c.kind == asLook && r.Intn(3) > 0 {
		c.kind = asPut
	}
	if c.kind == asStep {
		c = ask{kind: asStep, n: int64(looks - 1 - r.Intn(min(looks, 12)))}
	}
	return c
}
