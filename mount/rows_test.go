package mount_test

import (
	"fmt"
	"math"
	"math/rand"
	"slices"
	"testing"

	"warren/api"
	"warren/mount"
)

// ask is one call of a row: a Bind, or the Unbind of mount at.Mount.
type ask struct {
	unbind bool
	at     api.Place
	node   int
}

// answer is what a call answers; an Unbind's number is 0.
type answer struct {
	m   int
	why api.Errno
}

func play(x *mount.Table, c ask) (got answer) {
	if c.unbind {
		return answer{why: x.Unbind(c.at.Mount)}
	}
	got.m, got.why = x.Bind(c.at, c.node)
	return got
}

// toldMount is a mount by the chapter's words, which stays here when it is gone.
type toldMount struct {
	at   api.Place
	top  int
	gone bool
}

// told is a table by the chapter's words: all mounts that ever were, by their numbers.
type told []toldMount

func (w told) there(m int) bool { return m >= 0 && m < len(w) && !w[m].gone }

// lying answers the mounts of which it is so, 0 apart, because that lies nowhere.
func (w told) lying(is func(toldMount) bool) []int {
	var all []int
	for m := 1; m < len(w); m++ {
		if w.there(m) && is(w[m]) {
			all = append(all, m)
		}
	}
	return all
}

func (w told) at(p api.Place) []int {
	return w.lying(func(x toldMount) bool { return x.at == p })
}

func (w told) above(m int) []int {
	return w.lying(func(x toldMount) bool { return x.at.Mount == m })
}

func (w told) list() []int {
	return append([]int{0}, w.lying(func(toldMount) bool { return true })...)
}

func (w told) down(p api.Place) api.Place {
	if over := w.at(p); len(over) > 0 {
		return w.down(api.Place{Mount: over[0], Node: w[over[0]].top})
	}
	return p
}

func (w told) up(p api.Place) (api.Place, bool) {
	if p.Mount != 0 && w.there(p.Mount) && w[p.Mount].top == p.Node {
		return w[p.Mount].at, true
	}
	return p, false
}

func (w told) root(m int) (int, bool) {
	if w.there(m) {
		return w[m].top, true
	}
	return 0, false
}

func (w told) covered(node int) bool {
	return len(w.lying(func(x toldMount) bool { return x.at.Node == node })) > 0
}

func (w *told) play(c ask) answer {
	m := c.at.Mount
	switch {
	case !w.there(m), c.unbind && m == 0:
		return answer{why: api.ErrArg}
	case c.unbind && len(w.above(m)) > 0, !c.unbind && len(w.at(c.at)) > 0:
		return answer{why: api.ErrBusy}
	case c.unbind:
		(*w)[m].gone = true
		return answer{}
	case len(w.list()) == api.MaxMounts:
		return answer{why: api.ErrFull}
	}
	*w = append(*w, toldMount{at: c.at, top: c.node})
	return answer{m: len(*w) - 1}
}

// unlike tells what of the place, its mount and its node is unlike.
func unlike(x *mount.Table, w told, p api.Place) string {
	down := x.Down(p)
	if want := w.down(p); down != want {
		return fmt.Sprintf("Down(%v): %v, want %v", p, down, want)
	}
	if x.Down(down) != down || len(w.at(down)) > 0 {
		return fmt.Sprintf("P11.3: a mount lies at %v, which is Down(%v)", down, p)
	}
	up, is := x.Up(p)
	if want, top := w.up(p); up != want || is != top {
		return fmt.Sprintf("Up(%v): %v %v, want %v %v", p, up, is, want, top)
	}
	root, there := x.Root(p.Mount)
	if want, has := w.root(p.Mount); root != want || there != has {
		return fmt.Sprintf("Root(%d): %d %v, want %d %v", p.Mount, root, there, want, has)
	}
	if got, want := x.Covered(p.Node), w.covered(p.Node); got != want {
		return fmt.Sprintf("Covered(%d): %v", p.Node, got)
	}
	if got, want := x.Above(p.Mount), w.above(p.Mount); !slices.Equal(got, want) {
		return fmt.Sprintf("Above(%d): %v, want %v", p.Mount, got, want)
	}
	return ""
}

// different tells what of all that can be asked is unlike.
func different(x *mount.Table, w told, nodes []int) string {
	if got, want := x.List(), w.list(); !slices.Equal(got, want) {
		return fmt.Sprintf("List: %v, want %v", got, want)
	}
	for m := -1; m <= len(w); m++ {
		for _, n := range nodes {
			if wrong := unlike(x, w, at(m, n)); wrong != "" {
				return wrong
			}
		}
	}
	return ""
}

// holdAgainst plays the row in a table and as it is told, and holds what can be asked against each other behind each call.
func holdAgainst(t *testing.T, root int, nodes []int, row []ask) map[api.Errno]int {
	t.Helper()
	x, w := mount.New(root), told{{top: root}}
	seen := map[api.Errno]int{}
	for i, c := range row {
		got, want := play(x, c), w.play(c)
		if got != want {
			t.Fatalf("root %d, %v: %v, want %v", root, row[:i+1], got, want)
		}
		seen[want.why]++
		if wrong := different(x, w, nodes); wrong != "" {
			t.Fatalf("root %d, %v: %s", root, row[:i+1], wrong)
		}
	}
	return seen
}

// few answers the calls of mounts 0 to 2 and nodes 1 and 2.
func few() []ask {
	var calls []ask
	for m := range 3 {
		calls = append(calls, ask{unbind: true, at: at(m, 0)})
		for n := 1; n <= 2; n++ {
			calls = append(calls, ask{at: at(m, n), node: 1}, ask{at: at(m, n), node: 2})
		}
	}
	return calls
}

// P11.1 to P11.3: all rows of four calls.
func TestAllShortRows(t *testing.T) {
	calls := few()
	for _, first := range calls {
		for _, second := range calls {
			for _, third := range calls {
				for _, fourth := range calls {
					holdAgainst(t, 1, []int{0, 1, 2, 3}, []ask{first, second, third, fourth})
				}
			}
		}
	}
}

// pick answers a call that is mostly of a mount that is there, and now and then of any.
func pick(r *rand.Rand, w told, nodes []int) ask {
	all := w.list()
	m := all[r.Intn(len(all))]
	if r.Intn(8) == 0 {
		m = []int{-1, r.Intn(len(w)), len(w), math.MaxInt, math.MinInt}[r.Intn(5)]
	}
	return ask{unbind: r.Intn(5) < 2, at: at(m, nodes[r.Intn(len(nodes))]), node: nodes[r.Intn(len(nodes))]}
}

func longRow(r *rand.Rand, root int, nodes []int, calls int) []ask {
	w := told{{top: root}}
	var row []ask
	for range calls {
		c := pick(r, w, nodes)
		row = append(row, c)
		w.play(c)
	}
	return row
}

// P11.1 to P11.3: long rows, in which every refusal comes now and then.
func TestLongRows(t *testing.T) {
	r := rand.New(rand.NewSource(11))
	for _, nodes := range [][]int{{1, 2}, {0, 1, 2, 3, 4}, {-1, 0, 1, 2, 3, 4, 5, 6, 7, math.MaxInt, math.MinInt}} {
		seen := map[api.Errno]int{}
		for range 40 {
			root := nodes[r.Intn(len(nodes))]
			for why, n := range holdAgainst(t, root, nodes, longRow(r, root, nodes, 150)) {
				seen[why] += n
			}
		}
		for _, why := range []api.Errno{api.OK, api.ErrArg, api.ErrBusy, api.ErrFull} {
			if seen[why] < 100 {
				t.Errorf("of nodes %v, %v came %d times", nodes, why, seen[why])
			}
		}
	}
}
