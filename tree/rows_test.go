package tree_test

import (
	"fmt"
	"math"
	"math/rand"
	"slices"
	"testing"

	"warren/api"
	"warren/block"
	"warren/name"
	"warren/tree"
)

// Kinds of calls that a row is made of.
const (
	asMake = iota
	asJoin
	asPart
	asMove
	asHold
	asLoose
	asMode
	asOwner
	asRead
	asWrite
	asCut
)

// ask is one call of a row: n is the dir, or the node; to is Join's node, too; as is Make's text, too; a and b are the numbers that are left: Make's kind and mode, Read's at and most, Write's at and how many bytes.
type ask struct {
	kind, n int
	s       string
	to      int
	as      string
	a, b    int
}

func statOf(c ask) api.Stat {
	return api.Stat{Node: 77, Kind: c.a, Mode: c.b, Uid: c.b + 1, Gid: c.b + 2, Links: 9, Size: 11}
}

// answer is what a call answers, the fields that its kind does not have being zero.
type answer struct {
	n   int
	b   string
	why api.Errno
}

func play(x *tree.Tree, c ask) (got answer) {
	switch c.kind {
	case asMake:
		got.n, got.why = x.Make(c.n, c.s, statOf(c), c.as)
	case asJoin:
		got.why = x.Join(c.n, c.s, c.to)
	case asPart:
		got.why = x.Part(c.n, c.s)
	case asMove:
		got.why = x.Move(c.n, c.s, c.to, c.as)
	case asHold:
		got.why = x.Hold(c.n)
	case asLoose:
		got.why = x.Loose(c.n)
	case asMode:
		got.why = x.SetMode(c.n, c.a)
	case asOwner:
		got.why = x.SetOwner(c.n, c.a, c.b)
	case asRead:
		b, why := x.Read(c.n, c.a, c.b)
		got.b, got.why = string(b), why
	case asWrite:
		got.why = x.Write(c.n, c.a, letters(c.b))
	case asCut:
		got.why = x.Cut(c.n, c.a)
	}
	return got
}

// toldNode is a node by the chapter's words: what it was made of, and how often it is held.
type toldNode struct {
	stat api.Stat
	text string
	held int
	file int
	gone bool
}

// toldName says that dir has the name s, which is node n's.
type toldName struct {
	dir int
	s   string
	n   int
}

// told is a tree by the chapter's words: a list of nodes and one of names. All else is counted from these, and what is live is what they reach (P10.6).
type told struct {
	most  int
	nodes []*toldNode
	names []toldName
	pool  *block.Pool
}

func toldTree(nodes, blocks int) *told {
	pool, _ := block.New(blocks)
	return &told{most: nodes, pool: pool, nodes: []*toldNode{{stat: api.Stat{Node: 1, Kind: api.Dir, Mode: 0o755}}}}
}

// node answers a live one, or one of no kind.
func (w *told) node(n int) *toldNode {
	if n < 1 || n > len(w.nodes) || w.nodes[n-1].gone {
		return &toldNode{}
	}
	return w.nodes[n-1]
}

func (w *told) kind(n int) int   { return w.node(n).stat.Kind }
func (w *told) isDir(n int) bool { return w.kind(n) == api.Dir }

// count answers how many names there are of which it is so.
func (w *told) count(is func(toldName) bool) int {
	n := 0
	for _, e := range w.names {
		if is(e) {
			n++
		}
	}
	return n
}

func (w *told) namesOf(n int) int { return w.count(func(e toldName) bool { return e.n == n }) }
func (w *told) holds(dir int) int { return w.count(func(e toldName) bool { return e.dir == dir }) }
func (w *told) nameless(dir int) bool {
	return dir != 1 && w.namesOf(dir) == 0
}

// find answers whose name it is, 0 if nobody's.
func (w *told) find(dir int, s string) int {
	for _, e := range w.names {
		if e.dir == dir && e.s == s {
			return e.n
		}
	}
	return 0
}

func (w *told) up(dir int) int {
	for _, e := range w.names {
		if e.n == dir && w.isDir(dir) {
			return e.dir
		}
	}
	if w.isDir(dir) {
		return dir
	}
	return 0
}

// within goes down from dir, where the program goes up from n.
func (w *told) within(n, dir int) bool {
	for _, e := range w.names {
		if w.isDir(n) && e.dir == dir && (e.n == n || w.within(n, e.n)) {
			return true
		}
	}
	return false
}

func (w *told) links(n int) int {
	if !w.isDir(n) {
		return w.namesOf(n)
	}
	if w.nameless(n) {
		return 0
	}
	return 2 + w.count(func(e toldName) bool { return e.dir == n && w.isDir(e.n) })
}

func (w *told) stat(n int) (api.Stat, bool) {
	x := w.node(n)
	if x.stat.Kind == 0 {
		return api.Stat{}, false
	}
	st := x.stat
	st.Links = w.links(n)
	switch st.Kind {
	case api.Dir:
		st.Size = w.holds(n)
	case api.File:
		st.Size = w.pool.Size(x.file)
	case api.Symlink:
		st.Size = len(x.text)
	}
	return st, true
}

func (w *told) namesIn(dir int) []string {
	var all []string
	for _, e := range w.names {
		if e.dir == dir {
			all = append(all, e.s)
		}
	}
	slices.Sort(all)
	return all
}

func (w *told) live() []int {
	var all []int
	for i, x := range w.nodes {
		if !x.gone {
			all = append(all, i+1)
		}
	}
	return all
}

// sweep lets what no name reaches from the root, and nobody holds, be gone.
func (w *told) sweep() {
	reached := map[int]int{1: 1}
	for more := true; more; {
		more = false
		for _, e := range w.names {
			if reached[e.dir] == 1 && reached[e.n] == 0 {
				reached[e.n], more = 1, true
			}
		}
	}
	for i, x := range w.nodes {
		if reached[i+1] == 0 && x.held == 0 && !x.gone {
			x.gone = true
			w.pool.Drop(x.file)
		}
	}
}

// rule is a refusal, and whether it applies.
type rule struct {
	is  bool
	why api.Errno
}

func first(rules ...rule) api.Errno {
	for _, r := range rules {
		if r.is {
			return r.why
		}
	}
	return api.OK
}

func (w *told) forget(dir int, s string) {
	w.names = slices.DeleteFunc(w.names, func(e toldName) bool { return e.dir == dir && e.s == s })
}

func (w *told) make(c ask) answer {
	why := first(
		rule{!w.isDir(c.n) || !name.Right(c.s) || c.a < 1 || c.a > 3 || c.as != "" && c.a != api.Symlink, api.ErrArg},
		rule{w.find(c.n, c.s) != 0, api.Exists},
		rule{w.nameless(c.n), api.NoEnt},
		rule{c.a == api.Dir && w.links(c.n) >= api.MaxLinks, api.ManyLinks},
		rule{len(w.live()) >= w.most, api.NoSpace})
	if why != api.OK {
		return answer{why: why}
	}
	n := len(w.nodes) + 1
	st := statOf(c)
	x := &toldNode{stat: api.Stat{Node: n, Kind: st.Kind, Mode: st.Mode & 0o7777, Uid: st.Uid, Gid: st.Gid}, text: c.as}
	if st.Kind == api.File {
		x.file = w.pool.File()
	}
	w.nodes = append(w.nodes, x)
	w.names = append(w.names, toldName{c.n, c.s, n})
	return answer{n: n}
}

func (w *told) join(dir int, s string, n int) api.Errno {
	why := first(
		rule{!w.isDir(dir) || !name.Right(s) || w.kind(n) == 0 || w.isDir(n), api.ErrArg},
		rule{w.find(dir, s) != 0, api.Exists},
		rule{w.nameless(dir), api.NoEnt},
		rule{w.links(n) >= api.MaxLinks, api.ManyLinks})
	if why == api.OK {
		w.names = append(w.names, toldName{dir, s, n})
	}
	return why
}

func (w *told) part(dir int, s string) api.Errno {
	n := w.find(dir, s)
	why := first(
		rule{!w.isDir(dir), api.ErrArg},
		rule{n == 0, api.NoEnt},
		rule{w.isDir(n) && w.holds(n) > 0, api.NotEmpty})
	if why == api.OK {
		w.forget(dir, s)
	}
	return why
}

func (w *told) move(dir int, s string, to int, as string) api.Errno {
	n, old := w.find(dir, s), w.find(to, as)
	why := first(
		rule{!w.isDir(dir) || !w.isDir(to) || !name.Right(as), api.ErrArg},
		rule{n == 0 || w.nameless(to), api.NoEnt},
		rule{w.isDir(n) && (to == n || w.within(to, n)), api.Invalid})
	if why != api.OK || old == n {
		return why
	}
	why = first(
		rule{old != 0 && w.isDir(n) && !w.isDir(old), api.NotDir},
		rule{old != 0 && !w.isDir(n) && w.isDir(old), api.IsDir},
		rule{old != 0 && w.isDir(old) && w.holds(old) > 0, api.NotEmpty},
		rule{w.isDir(n) && w.up(n) != to && !w.isDir(old) && w.links(to) >= api.MaxLinks, api.ManyLinks})
	if why == api.OK {
		w.forget(dir, s)
		w.forget(to, as)
		w.names = append(w.names, toldName{to, as, n})
	}
	return why
}

func (w *told) play(c ask) (want answer) {
	x := w.node(c.n)
	switch c.kind {
	case asMake:
		want = w.make(c)
	case asJoin:
		want.why = w.join(c.n, c.s, c.to)
	case asPart:
		want.why = w.part(c.n, c.s)
	case asMove:
		want.why = w.move(c.n, c.s, c.to, c.as)
	case asHold:
		x.held++
		want.why = first(rule{x.stat.Kind == 0, api.ErrArg})
	case asLoose:
		want.why = first(rule{x.stat.Kind == 0, api.ErrArg}, rule{x.held == 0, api.ErrPast})
		x.held = max(x.held-1, 0)
	case asMode:
		x.stat.Mode = c.a & 0o7777
		want.why = first(rule{x.stat.Kind == 0, api.ErrArg})
	case asOwner:
		x.stat.Uid, x.stat.Gid = c.a, c.b
		want.why = first(rule{x.stat.Kind == 0, api.ErrArg})
	default:
		want = w.playBytes(x, c)
	}
	w.sweep()
	return want
}

// playBytes leaves to the pool what Files hold: it is held against the words of its own chapter.
func (w *told) playBytes(x *toldNode, c ask) (want answer) {
	switch {
	case x.stat.Kind != api.File:
		want.why = api.ErrArg
	case c.kind == asRead:
		b, why := w.pool.Read(x.file, c.a, c.b)
		want.b, want.why = string(b), why
	case c.kind == asWrite:
		want.why = w.pool.Write(x.file, c.a, letters(c.b))
	case c.kind == asCut:
		want.why = w.pool.Cut(x.file, c.a)
	}
	return want
}

// rowNames are those of rows, and some that may be none.
var rowNames = []string{"a", "b", "c", "d", "", ".", "B", "ab"}

// unlike tells what of node n is unlike.
func unlike(x *tree.Tree, w *told, n int) string {
	got, live := x.Stat(n)
	if want, is := w.stat(n); got != want || live != is {
		return fmt.Sprintf("Stat(%d): %v %v, want %v %v", n, got, live, want, is)
	}
	if got, want := x.Names(n), w.namesIn(n); !slices.Equal(got, want) {
		return fmt.Sprintf("Names(%d): %q, want %q", n, got, want)
	}
	if got, want := x.Up(n), w.up(n); got != want {
		return fmt.Sprintf("Up(%d): %d, want %d", n, got, want)
	}
	if got, want := x.Text(n), w.node(n).text; got != want {
		return fmt.Sprintf("Text(%d): %q, want %q", n, got, want)
	}
	for _, s := range append(w.namesIn(n), rowNames...) {
		got, there := x.Find(n, s)
		if want := w.find(n, s); got != want || there != (want != 0) {
			return fmt.Sprintf("Find(%d, %q): %d %v, want %d", n, s, got, there, want)
		}
	}
	read := ask{kind: asRead, n: n, b: math.MaxInt}
	if got, want := play(x, read), w.playBytes(w.node(n), read); got != want {
		return fmt.Sprintf("Read(%d): %v, want %v", n, got, want)
	}
	return ""
}

// different tells what of all that can be asked is unlike.
func different(x *tree.Tree, w *told) string {
	live := w.live()
	if got := x.Live(); !slices.Equal(got, live) || x.Left() != w.most-len(live) {
		return fmt.Sprintf("Live: %v, Left %d, want %v of %d", got, x.Left(), live, w.most)
	}
	for n := -1; n <= len(w.nodes)+1; n++ {
		if wrong := unlike(x, w, n); wrong != "" {
			return wrong
		}
	}
	some := append(live, -1, 0, len(w.nodes), len(w.nodes)+1)
	for _, n := range some {
		for _, dir := range some {
			if got, want := x.Within(n, dir), w.within(n, dir); got != want {
				return fmt.Sprintf("Within(%d, %d): %v", n, dir, got)
			}
		}
	}
	return ""
}

// holdAgainst plays the row in a tree and as it is told, and holds what can be asked against each other behind each call. At last all is let go and parted: the root alone is live, and new Files may have all blocks.
func holdAgainst(t *testing.T, nodes, blocks int, row []ask) map[api.Errno]int {
	t.Helper()
	x, w := made(t, nodes, blocks), toldTree(nodes, blocks)
	seen := map[api.Errno]int{}
	step := func(i int, c ask) {
		t.Helper()
		got, want := play(x, c), w.play(c)
		if got != want {
			t.Fatalf("%d nodes, %d blocks, %v, call %d, %v: %v, want %v", nodes, blocks, row[:min(i+1, len(row))], i, c, got, want)
		}
		seen[want.why]++
		if wrong := different(x, w); wrong != "" {
			t.Fatalf("%d nodes, %d blocks, %v, call %d, %v: %s", nodes, blocks, row[:min(i+1, len(row))], i, c, wrong)
		}
	}
	for i, c := range row {
		step(i, c)
	}
	for _, c := range lettingGo(w) {
		step(len(row), c)
	}
	if got := x.Live(); !slices.Equal(got, []int{1}) {
		t.Fatalf("P10.6: %d nodes, %d blocks, %v: at last %v are live", nodes, blocks, row, got)
	}
	if got := blocksLeft(x); got != min(blocks, (nodes-1)*api.MaxSize/edge) {
		t.Fatalf("P10.6: %d nodes, %v: at last %d blocks are free of %d", nodes, row, got, blocks)
	}
	return seen
}

// lettingGo answers the calls that let all nodes but the root go.
func lettingGo(w *told) []ask {
	var calls []ask
	for _, n := range w.live() {
		for range w.node(n).held {
			calls = append(calls, ask{kind: asLoose, n: n})
		}
	}
	left := slices.Clone(w.names)
	for len(left) > 0 {
		for i, e := range left {
			if !slices.ContainsFunc(left, func(f toldName) bool { return f.dir == e.n }) {
				calls = append(calls, ask{kind: asPart, n: e.dir, s: e.s})
				left = slices.Delete(left, i, i+1)
				break
			}
		}
	}
	return calls
}

// family is /a (2), /a/b (3), /f (4), which is /a/g, too, /e (5), a Dir that holds nothing, and /s (6), a Symlink.
var family = []ask{
	{kind: asMake, n: 1, s: "a", a: api.Dir}, {kind: asMake, n: 2, s: "b", a: api.Dir}, {kind: asMake, n: 1, s: "f", a: api.File}, {kind: asMake, n: 1, s: "e", a: api.Dir},
	{kind: asMake, n: 1, s: "s", a: api.Symlink, as: "text"}, {kind: asJoin, n: 2, s: "g", to: 4},
}

// ordinary answers calls of each kind of the family's nodes and names.
func ordinary() []ask {
	return []ask{
		{kind: asMake, n: 1, s: "n", a: api.Dir}, {kind: asMake, n: 3, s: "n", a: api.File}, {kind: asMake, n: 5, s: "n", a: api.Dir, b: -1},
		{kind: asJoin, n: 3, s: "h", to: 4}, {kind: asJoin, n: 5, s: "h", to: 6},
		{kind: asPart, n: 1, s: "f"}, {kind: asPart, n: 2, s: "g"}, {kind: asPart, n: 2, s: "b"}, {kind: asPart, n: 1, s: "a"}, {kind: asPart, n: 1, s: "e"}, {kind: asPart, n: 1, s: "s"},
		{kind: asMove, n: 1, s: "a", to: 5, as: "x"}, {kind: asMove, n: 1, s: "e", to: 3, as: "x"}, {kind: asMove, n: 2, s: "b", to: 1, as: "e"}, {kind: asMove, n: 1, s: "e", to: 1, as: "a"},
		{kind: asMove, n: 1, s: "f", to: 2, as: "g"}, {kind: asMove, n: 2, s: "g", to: 1, as: "s"}, {kind: asMove, n: 1, s: "f", to: 5, as: "y"}, {kind: asMove, n: 1, s: "s", to: 1, as: "f"}, {kind: asMove, n: 1, s: "a", to: 3, as: "z"},
		{kind: asHold, n: 4}, {kind: asHold, n: 5}, {kind: asHold, n: 3}, {kind: asLoose, n: 4}, {kind: asLoose, n: 5},
		{kind: asWrite, n: 4, a: 3, b: 20}, {kind: asCut, n: 4, a: 1},
	}
}

// P10.2 to P10.6: all rows of three calls, behind the family.
func TestAllShortRows(t *testing.T) {
	calls := ordinary()
	for _, first := range calls {
		for _, second := range calls {
			for _, third := range calls {
				holdAgainst(t, 7, 2, append(slices.Clone(family), first, second, third))
			}
		}
	}
}

// everyCall answers calls of nodes and dirs that may be any, there and not.
func everyCall() []ask {
	var calls []ask
	for n := -1; n <= 8; n++ {
		calls = append(calls, ask{kind: asHold, n: n}, ask{kind: asLoose, n: n}, ask{kind: asMode, n: n, a: n*1000 + 7}, ask{kind: asOwner, n: n, a: n, b: -n}, ask{kind: asRead, n: n, a: -1, b: 2}, ask{kind: asWrite, n: n, a: 5, b: 17}, ask{kind: asCut, n: n, a: 40})
		for kind := range 5 {
			calls = append(calls, ask{kind: asMake, n: n, s: "n", a: kind, b: 0o17777}, ask{kind: asMake, n: n, s: "f", a: kind, as: "t"})
		}
		for _, s := range []string{"a", "b", "f", "g", "e", ""} {
			calls = append(calls, ask{kind: asPart, n: n, s: s}, ask{kind: asMove, n: 1, s: s, to: n, as: "b"}, ask{kind: asMove, n: 2, s: s, to: n, as: "e"})
			for to := 0; to <= 7; to++ {
				calls = append(calls, ask{kind: asJoin, n: n, s: s, to: to}, ask{kind: asMove, n: n, s: s, to: to, as: s})
			}
		}
	}
	return calls
}

// P10.2 to P10.6: each call of a node or a dir that may be any, behind some that turn what stands, with room for more nodes and without.
func TestEveryCallOfEveryNode(t *testing.T) {
	start := append(slices.Clone(family), ask{kind: asHold, n: 5}, ask{kind: asPart, n: 1, s: "e"})
	ahead := []ask{
		{kind: asMake, n: 3, s: "n", a: api.File}, {kind: asJoin, n: 3, s: "h", to: 4}, {kind: asPart, n: 1, s: "f"}, {kind: asPart, n: 2, s: "b"}, {kind: asPart, n: 1, s: "s"},
		{kind: asMove, n: 2, s: "b", to: 1, as: "e"}, {kind: asMove, n: 2, s: "g", to: 1, as: "s"}, {kind: asHold, n: 4}, {kind: asHold, n: 6}, {kind: asLoose, n: 5}, {kind: asHold, n: 1}, {kind: asWrite, n: 4, a: 3, b: 9},
	}
	for i, c := range everyCall() {
		for j, before := range ahead {
			holdAgainst(t, []int{6, 64}[(i+j)%2], 1, append(slices.Clone(start), before, c))
		}
	}
}

// P10.2 to P10.6: long rows over trees of several sizes, in which there are few names, so that calls meet; every refusal comes now and then.
func TestLongRows(t *testing.T) {
	r := rand.New(rand.NewSource(10))
	seen := map[api.Errno]int{}
	for _, nodes := range []int{1, 2, 3, 5, 8, 20, api.MaxNodes} {
		for _, blocks := range []int{0, 1, 4, api.MaxBlocks} {
			for range 30 {
				for why, n := range holdAgainst(t, nodes, blocks, longRow(r, nodes, blocks, 150)) {
					seen[why] += n
				}
			}
		}
	}
	for _, why := range []api.Errno{api.OK, api.ErrArg, api.ErrPast, api.Exists, api.NoEnt, api.NoSpace, api.Invalid, api.NotDir, api.IsDir, api.NotEmpty, api.TooBig} {
		if seen[why] < 20 {
			t.Errorf("%v came %d times", why, seen[why])
		}
	}
}

// P10.3, P10.4: long rows with so many names that Dirs and Files come to MaxLinks.
func TestWideRows(t *testing.T) {
	r := rand.New(rand.NewSource(16))
	var names []string
	for i := range 24 {
		names = append(names, fmt.Sprint("n", i))
	}
	many := 0
	for range 25 {
		row := wideStart(r, names)
		many += holdAgainst(t, api.MaxNodes, 4, append(row, wideRow(r, 80, names)...))[api.ManyLinks]
	}
	if many < 50 {
		t.Errorf("ManyLinks came %d times", many)
	}
}

// wideStart makes 13 Dirs in the root, two of which (2, 3) hold others, and a File with 15 names.
func wideStart(r *rand.Rand, names []string) []ask {
	var row []ask
	for _, i := range r.Perm(13) {
		row = append(row, ask{kind: asMake, n: 1, s: names[i], a: api.Dir})
	}
	for _, i := range r.Perm(13) {
		row = append(row, ask{kind: asMake, n: 2, s: names[i], a: api.Dir}, ask{kind: asMake, n: 3, s: names[i+5], a: api.Dir})
	}
	row = append(row, ask{kind: asMake, n: 1, s: "file", a: api.File})
	for _, i := range r.Perm(14) {
		row = append(row, ask{kind: asJoin, n: 1 + i%3, s: fmt.Sprint("f", i), to: 41})
	}
	return row
}

func wideRow(r *rand.Rand, calls int, names []string) []ask {
	var row []ask
	for range calls {
		c := ask{kind: asMove, n: 1 + r.Intn(3), s: names[r.Intn(len(names))], to: 1 + r.Intn(3), as: names[r.Intn(len(names))]}
		switch r.Intn(8) {
		case 0, 1:
			c.kind, c.a, c.as = asMake, api.Dir, ""
		case 2:
			c.kind, c.to, c.s = asJoin, 41, fmt.Sprint("f", r.Intn(20))
		case 3:
			c.kind = asPart
			if r.Intn(3) == 0 {
				c.s = fmt.Sprint("f", r.Intn(14))
			}
		case 4:
			c.s = fmt.Sprint("f", r.Intn(14))
		}
		row = append(row, c)
	}
	return row
}

// number answers one that is mostly small, and now and then one that may not be.
func number(r *rand.Rand) int {
	if r.Intn(8) == 0 {
		return []int{-1, api.MaxSize, api.MaxSize + 1, math.MaxInt, math.MinInt}[r.Intn(5)]
	}
	return r.Intn(50)
}

// chooser picks calls that fit how a tree stands, most of the time.
type chooser struct {
	r *rand.Rand
	w *told
}

// node answers a live one, of the kind if there is one, and now and then any number.
func (c chooser) node(kind int) int {
	if c.r.Intn(12) == 0 {
		return []int{-1, 0, 1 + c.r.Intn(len(c.w.nodes)), len(c.w.nodes) + 1, math.MaxInt, math.MinInt}[c.r.Intn(6)]
	}
	live := c.w.live()
	fit := slices.DeleteFunc(slices.Clone(live), func(n int) bool { return c.w.kind(n) != kind })
	if len(fit) > 0 && c.r.Intn(10) > 0 {
		live = fit
	}
	return live[c.r.Intn(len(live))]
}

// name answers one that the Dir has, if it is to be there, else any.
func (c chooser) name(dir int, there bool) string {
	if has := c.w.namesIn(dir); there && len(has) > 0 && c.r.Intn(8) > 0 {
		return has[c.r.Intn(len(has))]
	}
	if c.r.Intn(25) == 0 {
		return rowNames[c.r.Intn(len(rowNames))]
	}
	return rowNames[c.r.Intn(4)]
}

// kinds are those of calls, as often as they are to come.
var kinds = []int{asMake, asMake, asMake, asMake, asMove, asMove, asMove, asMove, asMove, asJoin, asJoin, asPart, asPart, asHold, asHold, asLoose, asLoose, asWrite, asWrite, asCut, asRead, asMode, asOwner}

func (c chooser) call() ask {
	a := ask{kind: kinds[c.r.Intn(len(kinds))]}
	switch a.kind {
	case asMake:
		a.a, a.b = []int{api.Dir, api.Dir, api.Dir, api.File, api.File, api.Symlink, 0, 4}[c.r.Intn(8)], c.r.Intn(1<<14)
		a.n = c.node(api.Dir)
		a.s = c.name(a.n, false)
		if a.a == api.Symlink || c.r.Intn(20) == 0 {
			a.as = c.name(a.n, false)
		}
	case asJoin, asPart, asMove:
		a.n, a.to = c.node(api.Dir), c.node(api.Dir)
		a.s, a.as = c.name(a.n, a.kind != asJoin), c.name(a.to, c.r.Intn(2) == 0)
		if a.kind == asJoin {
			a.to = c.node(api.File + c.r.Intn(2))
		}
	case asHold, asLoose, asMode, asOwner:
		a.n, a.a, a.b = c.node(api.Dir+c.r.Intn(3)), number(c.r), number(c.r)
	case asWrite:
		a.n, a.a, a.b = c.node(api.File), number(c.r), c.r.Intn(40)
	case asCut, asRead:
		a.n, a.a, a.b = c.node(api.File), number(c.r), number(c.r)
	}
	return a
}

func longRow(r *rand.Rand, nodes, blocks, calls int) []ask {
	c := chooser{r, toldTree(nodes, blocks)}
	var row []ask
	for range calls {
		row = append(row, c.call())
		c.w.play(row[len(row)-1])
	}
	return row
}
