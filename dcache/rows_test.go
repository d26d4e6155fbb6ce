package dcache_test

import (
	"math/rand"
	"strconv"
	"testing"

	"warren/dcache"
)

// Kinds of calls that a row is made of.
const (
	asGet = iota
	asPut
	asDrop
	asForget
	asShrink
)

// ask is one call of a row; n is the node of a Put and the number of a Shrink.
type ask struct {
	kind, dir int
	name      string
	n         int
}

// answer is what a call answers, the fields that its kind does not have being zero.
type answer struct {
	how, n int
	gone   string
	ok     bool
}

func play(c *dcache.Cache, a ask) (x answer) {
	switch a.kind {
	case asGet:
		x.how, x.n = c.Get(a.dir, a.name)
	case asPut:
		x.gone = c.Put(a.dir, a.name, a.n)
	case asDrop:
		x.ok = c.Drop(a.dir, a.name)
	case asForget:
		x.n = c.Forget(a.dir)
	case asShrink:
		x.n = c.Shrink(a.n)
	}
	return x
}

// place is a name in a dir.
type place struct {
	dir  int
	name string
}

// memory is what is remembered of a place, and the moment of its last use.
type memory struct{ node, used int }

// told is the chapter's words: what is remembered by places, with moments in the stead of a list.
type told struct {
	most, moment int
	all          map[place]memory
}

// longestAgo answers the place that was used longest ago.
func (w *told) longestAgo() (first place) {
	at := w.moment + 1
	for p, m := range w.all {
		if m.used < at {
			first, at = p, m.used
		}
	}
	return first
}

func (w *told) answer(a ask) (x answer) {
	w.moment++
	p := place{a.dir, a.name}
	m, there := w.all[p]
	switch a.kind {
	case asGet:
		switch {
		case !there:
			return answer{how: dcache.Miss}
		case m.node <= 0:
			x.how = dcache.Negative
		default:
			x.how, x.n = dcache.Hit, m.node
		}
		w.all[p] = memory{m.node, w.moment}
	case asPut:
		w.all[p] = memory{a.n, w.moment}
		if len(w.all) > w.most {
			first := w.longestAgo()
			delete(w.all, first)
			x.gone = first.name
		}
	case asDrop:
		delete(w.all, p)
		x.ok = there
	case asForget:
		for o := range w.all {
			if o.dir == a.dir {
				delete(w.all, o)
				x.n++
			}
		}
	case asShrink:
		for ; x.n < a.n && len(w.all) > 0; x.n++ {
			delete(w.all, w.longestAgo())
		}
	}
	return x
}

// row plays the calls, and holds each answer and Len behind it against the words.
func row(t *testing.T, most int, l []ask) {
	t.Helper()
	c, _ := dcache.New(most)
	w := &told{most: most, all: map[place]memory{}}
	for i, a := range l {
		want := w.answer(a)
		if got := play(c, a); got != want {
			t.Fatalf("most %d, call %d of %v: %v, want %v", most, i, l, got, want)
		}
		if c.Len() != len(w.all) {
			t.Fatalf("most %d, call %d of %v: Len %d, want %d", most, i, l, c.Len(), len(w.all))
		}
	}
}

// P20.1, P20.2: all rows of up to five calls of a chosen set, in caches of one to three names.
func TestShortRows(t *testing.T) {
	set := []ask{
		{asGet, 1, "a", 0}, {asGet, 2, "a", 0}, {asGet, 1, "b", 0},
		{asPut, 1, "a", 5}, {asPut, 1, "a", 0}, {asPut, 2, "a", 6}, {asPut, 1, "b", -1},
		{asDrop, 1, "a", 0}, {asForget, 1, "", 0}, {asShrink, 0, "", 1},
	}
	var grow func(l []ask)
	grow = func(l []ask) {
		if len(l) == 5 {
			for most := 1; most <= 3; most++ {
				row(t, most, l)
			}
			return
		}
		for _, a := range set {
			grow(append(l[:len(l):len(l)], a))
		}
	}
	grow(nil)
}

// P20.1, P20.2: long rows, picked from fixed seeds.
func TestLongRows(t *testing.T) {
	for seed := range int64(300) {
		r := rand.New(rand.NewSource(seed))
		most := 1 + r.Intn(64)
		if r.Intn(2) == 0 {
			most = 1 + r.Intn(6)
		}
		var l []ask
		for range 600 {
			a := ask{kind: asPut, dir: r.Intn(5) - 1, name: strconv.Itoa(r.Intn(most/2 + 2)), n: r.Intn(6) - 1}
			switch k := r.Intn(60); {
			case k < 24:
				a.kind = asGet
			case k < 30:
				a.kind = asDrop
			case k < 32:
				a.kind = asForget
			case k < 34:
				a.kind, a.n = asShrink, r.Intn(most+3)-1
			}
			l = append(l, a)
		}
		row(t, most, l)
	}
}
