package walk_test

import (
	"fmt"
	"math"
	"math/rand"
	"slices"
	"strings"
	"testing"

	"warren/api"
	"warren/mount"
	"warren/tree"
	"warren/walk"
)

// told is a walk by the chapter's words, part for part, each of which calls the next.
type told struct {
	*world
	follow, slash   bool
	followed, steps int
}

// answer is what Walk and Steps answer.
type answer struct {
	found walk.Found
	why   api.Errno
	steps int
}

// toldWalk answers what they are to.
func toldWalk(w *world, path string, follow bool) answer {
	if !toldPlace(w, w.root) || !toldPlace(w, w.from) {
		return answer{why: api.ErrArg}
	}
	parts, why := toldParts(path)
	if why != api.OK {
		return answer{why: why}
	}
	k := &told{world: w, follow: follow, slash: path[len(path)-1] == '/'}
	begin := w.mounts.Down(w.from)
	if path[0] == '/' {
		begin = w.mounts.Down(w.root)
	}
	found, why := k.on(bare(begin), parts)
	if why == api.OK {
		found.Slash = k.slash
	}
	return answer{found, why, k.steps}
}

func toldPlace(w *world, p api.Place) bool {
	return slices.Contains(w.tree.Live(), p.Node) && slices.Contains(w.mounts.List(), p.Mount)
}

// toldParts answers a text's parts, or why it is no path.
func toldParts(s string) ([]string, api.Errno) {
	if s == "" {
		return nil, api.NoEnt
	}
	if len(s) > api.MaxPath {
		return nil, api.NameLong
	}
	for i := range len(s) {
		if s[i] == 0 {
			return nil, api.Invalid
		}
	}
	parts := strings.FieldsFunc(s, func(r rune) bool { return r == '/' })
	for _, part := range parts {
		if len(part) > api.MaxName {
			return nil, api.NameLong
		}
	}
	return parts, api.OK
}

// on goes on from what was come to with the parts that are left.
func (k *told) on(was walk.Found, left []string) (walk.Found, api.Errno) {
	st, _ := k.tree.Stat(was.At.Node)
	if len(left) == 0 {
		if k.slash && st.Kind != api.Dir {
			return walk.Found{}, api.NotDir
		}
		return was, api.OK
	}
	k.steps++
	part, behind := left[0], left[1:]
	switch {
	case st.Kind != api.Dir:
		return walk.Found{}, api.NotDir
	case !toldMay(k.who, st):
		return walk.Found{}, api.NoAccess
	case part == ".":
		return k.on(bare(was.At), behind)
	case part == "..":
		return k.on(bare(k.up(was.At)), behind)
	}
	return k.name(was.At, part, behind)
}

// name goes on with a name.
func (k *told) name(dir api.Place, part string, behind []string) (walk.Found, api.Errno) {
	n, there := k.tree.Find(dir.Node, part)
	switch {
	case !there && len(behind) == 0:
		return missing(dir, part), api.OK
	case !there:
		return walk.Found{}, api.NoEnt
	}
	to := k.mounts.Down(at(dir.Mount, n))
	if st, _ := k.tree.Stat(to.Node); st.Kind == api.Symlink {
		if len(behind) > 0 || k.follow || k.slash {
			return k.text(dir, k.tree.Text(to.Node), behind)
		}
	}
	return k.on(named(dir, part, to), behind)
}

// text goes on with a Symlink's text.
func (k *told) text(dir api.Place, text string, behind []string) (walk.Found, api.Errno) {
	length := len(text)
	for _, part := range behind {
		length += len(part) + 1
	}
	if len(behind) > 0 && !k.slash {
		length--
	}
	parts, why := toldParts(text)
	switch {
	case k.followed == api.MaxFollow:
		return walk.Found{}, api.Loop
	case text == "":
		return walk.Found{}, api.NoEnt
	case length > api.MaxPath:
		return walk.Found{}, api.NameLong
	case why != api.OK:
		return walk.Found{}, why
	}
	k.followed++
	if text[len(text)-1] == '/' && len(behind) == 0 {
		k.slash = true
	}
	if text[0] == '/' {
		dir = k.mounts.Down(k.root)
	}
	return k.on(bare(dir), slices.Concat(parts, behind))
}

// up is `..`, with root looked for at every mount that is left: the program does not, because there is none at which it can be.
func (k *told) up(p api.Place) api.Place {
	root := k.mounts.Down(k.root)
	if p == root {
		return p
	}
	for {
		up, is := k.mounts.Up(p)
		if !is {
			break
		}
		if k.mounts.Down(up) == root {
			return root
		}
		p = up
	}
	return k.mounts.Down(at(p.Mount, k.tree.Up(p.Node)))
}

func toldMay(c api.Cred, st api.Stat) bool {
	x := 0o001
	if c.Gid == st.Gid {
		x = 0o010
	}
	if c.Uid == st.Uid {
		x = 0o100
	}
	return c.Uid == 0 || st.Mode&x != 0
}

// held walks, and holds what is answered against the chapter's words.
func held(t *testing.T, w *world, path string, follow bool) answer {
	t.Helper()
	want := toldWalk(w, path, follow)
	found, why := walk.Walk(w.tree, w.mounts, w.root, w.from, w.who, path, follow)
	steps := walk.Steps(w.tree, w.mounts, w.root, w.from, w.who, path, follow)
	if got := (answer{found, why, steps}); got != want {
		t.Fatalf("from %v under %v, %v, %q, follow %v: %+v, want %+v\nin %s", w.from, w.root, w.who, path, follow, got, want, w.look())
	}
	return want
}

// paths answers all of up to so many parts, that begin and end with a slash or not.
func paths(parts []string, most int) []string {
	all, row := []string{"", "/"}, []string{""}
	for range most {
		var longer []string
		for _, s := range row {
			for _, part := range parts {
				longer = append(longer, s+"/"+part)
			}
		}
		for _, s := range longer {
			all = append(all, s, s+"/", s[1:], s[1:]+"/")
		}
		row = longer
	}
	return all
}

// small is a world with Dirs that lie in one another and over one another, and Symlinks that lead about in it.
func small(t *testing.T) *world {
	w := empty(t)
	a := w.dir(1, "a")
	b := w.dir(a, "b")
	w.file(b, "f")
	w.link(1, "l", "a/b")
	w.link(a, "l", "../l/")
	w.link(b, "l", "/")
	w.link(b, "a", "l/no")
	c := w.dir(1, "b")
	w.dir(c, "a")
	m := w.bind(on(c), a)
	w.bind(at(m, b), c)
	return w
}

// P12.1 to P12.3: all paths of up to four parts in a small world, from every other one of its places, under root and under others.
func TestAllShortPaths(t *testing.T) {
	w := small(t)
	all := paths([]string{".", "..", "a", "b", "f", "l", "no"}, 4)
	var places []api.Place
	for n := range 12 {
		for m := range 3 {
			if walk.Place(w.tree, w.mounts, at(m, n)) && n%2 == m%2 {
				places = append(places, at(m, n))
			}
		}
	}
	was := w.look()
	for i, path := range all {
		for j, from := range places {
			w.from, w.root = from, places[(i+j)%len(places)]
			held(t, w, path, i%2 == 0)
			w.root = top
			held(t, w, path, i%2 == 1)
		}
		w.from = top
		held(t, w, path, true)
		held(t, w, path, false)
	}
	if is := w.look(); is != was {
		t.Errorf("the walks turned\n%s into\n%s", was, is)
	}
}

// P12.1: the same, with all modes of three Dirs that let each class pass or not, for one of each class.
func TestAllShortPathsWithoutX(t *testing.T) {
	w := small(t)
	all := paths([]string{"..", "a", "b", "l"}, 3)
	for modes := range 8 * 8 * 8 {
		for i, n := range []int{1, 2, 3} {
			bits := modes >> (3 * i) % 8
			w.tree.SetMode(n, bits>>2<<6|bits>>1%2<<3|bits%2)
			w.tree.SetOwner(n, 7, 8)
		}
		for i, who := range []api.Cred{{Uid: 7, Gid: 8}, {Uid: 5, Gid: 8}, {Uid: 5, Gid: 5}} {
			w.who, w.from = who, on(1+(modes+i)%3)
			for j, path := range all {
				held(t, w, path, j%2 == 0)
			}
		}
	}
}

// chooser makes worlds and paths.
type chooser struct {
	r     *rand.Rand
	names []string
}

func pick[T any](r *rand.Rand, of []T) T { return of[r.Intn(len(of))] }

// path answers a text of some parts, which seldom is none.
func (c chooser) path(most int) string {
	var b strings.Builder
	if c.r.Intn(3) == 0 {
		b.WriteString("/")
	}
	for i := range c.r.Intn(most + 1) {
		if i > 0 {
			b.WriteString(pick(c.r, []string{"/", "/", "/", "//"}))
		}
		switch c.r.Intn(12) {
		case 0, 1, 2:
			b.WriteString("..")
		case 3:
			b.WriteString(".")
		default:
			b.WriteString(pick(c.r, c.names))
		}
	}
	if c.r.Intn(5) == 0 {
		b.WriteString("/")
	}
	if c.r.Intn(40) == 0 {
		b.WriteString(pick(c.r, []string{"\x00", strings.Repeat("x", api.MaxName), strings.Repeat("x", api.MaxName+1), strings.Repeat("/.", api.MaxPath/2-2), strings.Repeat("/", api.MaxPath)}))
	}
	return b.String()
}

// stat answers one of a node that is mostly open to all.
func (c chooser) stat(kind int) api.Stat {
	st := api.Stat{Kind: kind, Mode: 0o755, Uid: c.r.Intn(3), Gid: c.r.Intn(3)}
	if c.r.Intn(6) == 0 {
		st.Mode = c.r.Intn(0o1000)
	}
	return st
}

// world answers one of up to so many nodes and some mounts, of which a few Dirs have lost their names.
func (c chooser) world(t *testing.T, nodes int) *world {
	w := empty(t)
	dirs := []int{1}
	for range nodes {
		kind, text := pick(c.r, []int{api.Dir, api.Dir, api.File, api.Symlink, api.Symlink}), ""
		if kind == api.Symlink {
			text = c.path(3)
		}
		n, why := w.tree.Make(pick(c.r, dirs), pick(c.r, c.names), c.stat(kind), text)
		if why == api.OK && kind == api.Dir {
			dirs = append(dirs, n)
		}
	}
	for range c.r.Intn(8) {
		n := pick(c.r, dirs)
		if c.r.Intn(6) == 0 {
			n = c.r.Intn(nodes + 2)
		}
		w.mounts.Bind(at(c.r.Intn(4), pick(c.r, dirs)), n)
	}
	for range 3 {
		dir, s := pick(c.r, dirs), pick(c.r, c.names)
		n, _ := w.tree.Find(dir, s)
		w.tree.Hold(n)
		w.tree.Part(dir, s)
	}
	return w
}

// place answers one that mostly is one.
func (c chooser) place(w *world) api.Place {
	switch c.r.Intn(60) {
	case 0:
		return at(pick(c.r, odd), 1)
	case 1:
		return on(pick(c.r, append(odd, 0)))
	case 2:
		return at(c.r.Intn(api.MaxMounts+1), c.r.Intn(api.MaxNodes+1))
	}
	return at(pick(c.r, w.mounts.List()), pick(c.r, w.tree.Live()))
}

// what answers which of the ways to end it is.
func (a answer) what() string {
	switch {
	case a.why != api.OK:
		return fmt.Sprint(int(a.why))
	case !a.found.Has:
		return "missing"
	case a.found.Last == "":
		return "bare"
	}
	return "named"
}

// P12.1 to P12.3: many paths in many worlds, in which every end comes now and then.
func TestManyWorlds(t *testing.T) {
	c := chooser{r: rand.New(rand.NewSource(12)), names: []string{"a", "b", "c", "d"}}
	seen := map[string]int{}
	for range 1500 {
		w := c.world(t, 3+c.r.Intn(30))
		was := w.look()
		for range 60 {
			w.root, w.from = top, c.place(w)
			if c.r.Intn(2) == 0 {
				w.root = c.place(w)
			}
			w.who = api.Cred{Uid: c.r.Intn(3), Gid: c.r.Intn(3)}
			a := held(t, w, c.path(6), c.r.Intn(2) == 0)
			seen[a.what()]++
			if a.steps > (api.MaxFollow+1)*api.MaxPath/2 {
				t.Fatalf("P12.3: %d parts", a.steps)
			}
		}
		if is := w.look(); is != was {
			t.Fatalf("the walks turned\n%s into\n%s", was, is)
		}
	}
	for _, end := range []string{"named", "bare", "missing", "1", "32", "34", "37", "39", "45", "46"} {
		if seen[end] < 100 {
			t.Errorf("%s came %d times of %v", end, seen[end], seen)
		}
	}
}

// P12.1: long texts, and what stands behind them, about MaxPath.
func TestLongTexts(t *testing.T) {
	r := rand.New(rand.NewSource(120))
	seen := map[string]int{}
	for range 400 {
		w := empty(t)
		w.dir(1, "d")
		rest := strings.Repeat(pick(r, []string{"/.", "/..", "/d/..", "//."}), 1+r.Intn(300)) + pick(r, []string{"", "/", "//"})
		tail := pick(r, []string{"", "/", "m", "m/", "d", "/m/."})
		about := api.MaxPath - len(rest) - len(tail) + r.Intn(9) - 4
		w.link(1, "l", pick(r, []string{"", "/"})+strings.Repeat("./", about/2)+tail)
		w.link(1, "m", strings.Repeat(pick(r, []string{"/", "./"}), r.Intn(api.MaxPath/2))+pick(r, []string{"", "/", "d", "d/"}))
		for _, path := range []string{"l", "l" + rest, "/d/../l/m" + rest, "m" + rest} {
			seen[held(t, w, path, true).what()]++
			seen[held(t, w, path, false).what()]++
		}
	}
	for _, end := range []string{"named", "bare", "32", "45"} {
		if seen[end] < 50 {
			t.Errorf("%s came %d times of %v", end, seen[end], seen)
		}
	}
}

// R1: whatever is handed in, the calls end and do not panic.
func TestWhatever(t *testing.T) {
	c := chooser{r: rand.New(rand.NewSource(1200)), names: []string{"a", "b"}}
	numbers := append([]int{0, 1, 2, 3, 8, 9}, odd...)
	for range 200 {
		w := c.world(t, 10)
		for range 7 {
			w.mounts.Bind(at(pick(c.r, numbers), pick(c.r, numbers)), pick(c.r, numbers))
		}
		trees, tables := []*tree.Tree{nil, w.tree}, []*mount.Table{nil, w.mounts}
		for range 50 {
			x, m := trees[min(1, c.r.Intn(8))], tables[min(1, c.r.Intn(8))]
			root, from := at(pick(c.r, numbers), pick(c.r, numbers)), at(pick(c.r, numbers), pick(c.r, numbers))
			who := api.Cred{Uid: pick(c.r, numbers), Gid: pick(c.r, []int{math.MinInt, -1, 0, 1})}
			path := c.path(5)
			found, why := walk.Walk(x, m, root, from, who, path, true)
			steps := walk.Steps(x, m, root, from, who, path, true)
			want := answer{why: api.ErrArg}
			if x != nil && m != nil {
				w.root, w.from, w.who = root, from, who
				want = toldWalk(w, path, true)
			}
			if got := (answer{found, why, steps}); got != want {
				t.Fatalf("%v %v %v %q: %+v, want %+v", root, from, who, path, got, want)
			}
		}
	}
}
