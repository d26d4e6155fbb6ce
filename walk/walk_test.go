package walk_test

import (
	"fmt"
	"math"
	"strings"
	"testing"
	"unsafe"

	"warren/api"
	"warren/mount"
	"warren/tree"
	"warren/walk"
)

// odd are numbers that no test gives a node or a mount.
var odd = []int{-1, 99, math.MaxInt, math.MinInt}

func at(m, n int) api.Place { return api.Place{Mount: m, Node: n} }

// on is a place under mount 0.
func on(n int) api.Place { return at(0, n) }

// top is the root of all.
var top = on(1)

// named is what a walk comes to by a name.
func named(dir api.Place, last string, to api.Place) walk.Found {
	return walk.Found{Dir: dir, Last: last, At: to, Has: true}
}

// bare is what a walk comes to without one.
func bare(p api.Place) walk.Found { return walk.Found{Dir: p, At: p, Has: true} }

// missing is a name that the Dir has not.
func missing(dir api.Place, last string) walk.Found { return walk.Found{Dir: dir, Last: last} }

func slashed(f walk.Found) walk.Found {
	f.Slash = true
	return f
}

// world is a tree with mounts, and who walks there from where.
type world struct {
	t          *testing.T
	tree       *tree.Tree
	mounts     *mount.Table
	root, from api.Place
	who        api.Cred
}

// empty answers a world of the root alone, in which somebody walks who has no rights of his own.
func empty(t *testing.T) *world {
	t.Helper()
	x, why := tree.New(api.MaxNodes, api.MaxBlocks)
	if why != api.OK {
		t.Fatal(why)
	}
	return &world{t: t, tree: x, mounts: mount.New(1), root: top, from: top, who: api.Cred{Uid: 5, Gid: 5}}
}

func (w *world) make(dir int, s string, st api.Stat, text string) int {
	w.t.Helper()
	n, why := w.tree.Make(dir, s, st, text)
	if why != api.OK {
		w.t.Fatalf("Make(%d, %q): %v", dir, s, why)
	}
	return n
}

func (w *world) dir(dir int, s string) int {
	w.t.Helper()
	return w.make(dir, s, api.Stat{Kind: api.Dir, Mode: 0o755}, "")
}

func (w *world) file(dir int, s string) int {
	w.t.Helper()
	return w.make(dir, s, api.Stat{Kind: api.File, Mode: 0o755}, "")
}

// link makes a Symlink without a right, since none is asked of it.
func (w *world) link(dir int, s, text string) int {
	w.t.Helper()
	return w.make(dir, s, api.Stat{Kind: api.Symlink}, text)
}

// bind lays a mount at the place, and answers its number.
func (w *world) bind(p api.Place, node int) int {
	w.t.Helper()
	m, why := w.mounts.Bind(p, node)
	if why != api.OK {
		w.t.Fatalf("Bind(%v, %d): %v", p, node, why)
	}
	return m
}

// remove takes the Dir's name away while it is held.
func (w *world) remove(dir int, s string) {
	w.t.Helper()
	n, _ := w.tree.Find(dir, s)
	if why := w.tree.Hold(n); why != api.OK {
		w.t.Fatalf("Hold(%d): %v", n, why)
	}
	if why := w.tree.Part(dir, s); why != api.OK {
		w.t.Fatalf("Part(%d, %q): %v", dir, s, why)
	}
}

// look tells all that can be asked of the tree and of the mounts.
func (w *world) look() string {
	var b strings.Builder
	fmt.Fprint(&b, w.tree.Live(), w.tree.Left(), w.mounts.List())
	for n := -1; n <= api.MaxNodes+1; n++ {
		st, live := w.tree.Stat(n)
		if !live && n > 0 {
			continue
		}
		fmt.Fprint(&b, "\n", st, w.tree.Up(n), w.tree.Text(n), w.mounts.Covered(n))
		for _, s := range w.tree.Names(n) {
			node, _ := w.tree.Find(n, s)
			fmt.Fprint(&b, " ", s, node)
		}
		bytes, why := w.tree.Read(n, 0, api.MaxSize)
		fmt.Fprint(&b, bytes, int(why))
		for _, m := range w.mounts.List() {
			p, is := w.mounts.Up(at(m, n))
			fmt.Fprint(&b, w.mounts.Down(at(m, n)), p, is)
		}
	}
	for _, m := range w.mounts.List() {
		root, _ := w.mounts.Root(m)
		fmt.Fprint(&b, "\n", m, root, w.mounts.Above(m))
	}
	return b.String()
}

// walks asks what a walk answers, behind how many parts, and that it turned nothing.
func (w *world) walks(path string, follow bool, want walk.Found, why api.Errno, steps int) {
	w.t.Helper()
	was := w.look()
	told := fmt.Sprintf("from %v under %v, %v, %.60q, follow %v", w.from, w.root, w.who, path, follow)
	for range 2 {
		got, gotWhy := walk.Walk(w.tree, w.mounts, w.root, w.from, w.who, path, follow)
		if got != want || gotWhy != why {
			w.t.Errorf("Walk %s: %+v, %v, want %+v, %v", told, got, gotWhy, want, why)
		}
		if n := walk.Steps(w.tree, w.mounts, w.root, w.from, w.who, path, follow); n != steps {
			w.t.Errorf("Steps %s: %d, want %d", told, n, steps)
		}
	}
	if is := w.look(); is != was {
		w.t.Errorf("Walk %s turned\n%s into\n%s", told, was, is)
	}
}

// finds asks what is come to, whether the last Symlink would be followed or not.
func (w *world) finds(path string, steps int, want walk.Found) {
	w.t.Helper()
	w.walks(path, true, want, api.OK, steps)
	w.walks(path, false, want, api.OK, steps)
}

// refuses asks for a refusal, whether the last Symlink would be followed or not.
func (w *world) refuses(path string, steps int, why api.Errno) {
	w.t.Helper()
	w.walks(path, true, walk.Found{}, why, steps)
	w.walks(path, false, walk.Found{}, why, steps)
}

// Place: a live node under a mount that is there; which kind it is, and whether it lies below the mount's top, is not asked.
func TestPlace(t *testing.T) {
	w := empty(t)
	d, f, l := w.dir(1, "d"), w.file(1, "f"), w.link(1, "l", "d")
	e, gone := w.dir(1, "e"), w.dir(1, "gone")
	w.remove(1, "e")
	w.tree.Part(1, "gone")
	m, off := w.bind(on(d), d), w.bind(on(f), f)
	w.mounts.Unbind(off)
	for _, n := range []int{1, d, f, l, e} {
		for _, p := range []api.Place{on(n), at(m, n)} {
			if !walk.Place(w.tree, w.mounts, p) {
				t.Errorf("Place(%v): false", p)
			}
			if walk.Place(nil, w.mounts, p) || walk.Place(w.tree, nil, p) || walk.Place(nil, nil, p) {
				t.Errorf("Place(%v) without a tree or mounts: true", p)
			}
		}
		for _, none := range append(odd, off, off+1) {
			if walk.Place(w.tree, w.mounts, at(none, n)) {
				t.Errorf("Place(%v): true", at(none, n))
			}
		}
	}
	for _, n := range append(odd, 0, gone) {
		if walk.Place(w.tree, w.mounts, on(n)) || walk.Place(w.tree, w.mounts, at(m, n)) || walk.Place(w.tree, w.mounts, at(-1, n)) {
			t.Errorf("Place of node %d: true", n)
		}
	}
	w.tree.Loose(e)
	if walk.Place(w.tree, w.mounts, on(e)) {
		t.Errorf("Place of a node that nobody holds any more: true")
	}
}

// P12.1: ErrArg comes ahead of what name.Read refuses, and root and from are asked for, whether the walk begins there or not.
func TestArguments(t *testing.T) {
	w := empty(t)
	w.dir(1, "a")
	gone := w.dir(1, "gone")
	w.tree.Part(1, "gone")
	off := w.bind(on(2), 2)
	w.mounts.Unbind(off)
	wrong := []api.Place{{}, on(gone), on(50), at(off, 1), at(off, gone), at(off+1, 1)}
	for _, n := range odd {
		wrong = append(wrong, on(n), at(n, 1), at(n, n))
	}
	for _, path := range []string{"", "/", "/a", "a", ".", "\x00", strings.Repeat("a", api.MaxName+1), strings.Repeat("/", api.MaxPath+1)} {
		for _, p := range wrong {
			w.root, w.from = p, top
			w.refuses(path, 0, api.ErrArg)
			w.root, w.from = top, p
			w.refuses(path, 0, api.ErrArg)
			w.root, w.from = p, p
			w.refuses(path, 0, api.ErrArg)
		}
		for _, none := range []struct {
			t *tree.Tree
			m *mount.Table
		}{{nil, w.mounts}, {w.tree, nil}, {nil, nil}} {
			found, why := walk.Walk(none.t, none.m, top, top, api.Cred{}, path, true)
			if found != (walk.Found{}) || why != api.ErrArg {
				t.Errorf("Walk(%v, %v, %.9q): %v, %v", none.t != nil, none.m != nil, path, found, why)
			}
			if n := walk.Steps(none.t, none.m, top, top, api.Cred{}, path, true); n != 0 {
				t.Errorf("Steps(%v, %v, %.9q): %d", none.t != nil, none.m != nil, path, n)
			}
		}
	}
}

// P12.1: what name.Read refuses, ahead of all that is refused on the way.
func TestPathRefused(t *testing.T) {
	w := empty(t)
	f := w.file(1, "f")
	long := strings.Repeat("x", api.MaxName)
	for _, from := range []api.Place{top, on(f)} {
		w.from = from
		w.refuses("", 0, api.NoEnt)
		w.refuses("\x00", 0, api.Invalid)
		w.refuses("f/x\x00", 0, api.Invalid)
		w.refuses(long+"x", 0, api.NameLong)
		w.refuses("f/"+long+"x/\x00", 0, api.Invalid)
		w.refuses("/f/x/"+long+"x", 0, api.NameLong)
		w.refuses(strings.Repeat("/", api.MaxPath+1), 0, api.NameLong)
		w.refuses(strings.Repeat("/", api.MaxPath)+"\x00", 0, api.NameLong)
	}
	w.from = top
	w.tree.SetMode(1, 0)
	w.refuses("", 0, api.NoEnt)
	w.refuses("a\x00", 0, api.Invalid)
	w.refuses("./"+long+"x", 0, api.NameLong)
	w.tree.SetMode(1, 0o755)
	w.finds(long, 1, missing(top, long))
	w.finds(strings.Repeat("/", api.MaxPath), 0, slashed(bare(top)))
	w.finds(strings.Repeat("/.", api.MaxPath/2), api.MaxPath/2, bare(top))
	w.finds(strings.Repeat("./", api.MaxPath/2), api.MaxPath/2, slashed(bare(top)))
}

// P12.1, P12.2: a path that is Root begins at root, others at from; slashes more mean nothing.
func TestBegin(t *testing.T) {
	w := empty(t)
	a := w.dir(1, "a")
	b := w.dir(a, "b")
	c := w.dir(b, "c")
	w.from = on(a)
	w.finds("/", 0, slashed(bare(top)))
	w.finds("///", 0, slashed(bare(top)))
	w.finds("/a", 1, named(top, "a", on(a)))
	w.finds("///a", 1, named(top, "a", on(a)))
	w.finds("//a//b", 2, named(on(a), "b", on(b)))
	w.finds("/a/", 1, slashed(named(top, "a", on(a))))
	w.finds("/a///", 1, slashed(named(top, "a", on(a))))
	w.finds("b", 1, named(on(a), "b", on(b)))
	w.finds("b//c//", 2, slashed(named(on(b), "c", on(c))))
	w.finds("./b", 2, named(on(a), "b", on(b)))
	w.root = on(b)
	w.finds("/", 0, slashed(bare(on(b))))
	w.finds("/c", 1, named(on(b), "c", on(c)))
	w.finds("/b", 1, missing(on(b), "b"))
	w.finds("b", 1, named(on(a), "b", on(b)))
}

// P12.1: what is walked from need be no Dir, until a part is asked of it; a Symlink there is not followed.
func TestBeginAtNoDir(t *testing.T) {
	w := empty(t)
	f, l := w.file(1, "f"), w.link(1, "l", ".")
	for _, n := range []int{f, l} {
		w.root, w.from = top, on(n)
		for _, path := range []string{".", "..", "f", "./", "f/x", "no"} {
			w.refuses(path, 1, api.NotDir)
		}
		w.finds("/", 0, slashed(bare(top)))
		w.finds("/f", 1, named(top, "f", on(f)))
		w.root, w.from = on(n), top
		w.refuses("/", 0, api.NotDir)
		for _, path := range []string{"/.", "/..", "/f", "/./", "/f/x", "/no"} {
			w.refuses(path, 1, api.NotDir)
		}
		w.finds("f", 1, named(top, "f", on(f)))
	}
}

// P12.1, P12.2: the dots lead somewhere without a name.
func TestDots(t *testing.T) {
	w := empty(t)
	a := w.dir(1, "a")
	b := w.dir(a, "b")
	w.from = on(b)
	w.finds(".", 1, bare(on(b)))
	w.finds("..", 1, bare(on(a)))
	w.finds("../", 1, slashed(bare(on(a))))
	w.finds("./", 1, slashed(bare(on(b))))
	w.finds("./.", 2, bare(on(b)))
	w.finds("../..", 2, bare(top))
	w.finds("../../..", 3, bare(top))
	w.finds("/.", 1, bare(top))
	w.finds("/..", 1, bare(top))
	w.finds("/../..", 2, bare(top))
	w.finds("/../a", 2, named(top, "a", on(a)))
	w.finds("/a/.", 2, bare(on(a)))
	w.finds("/a/..", 2, bare(top))
	w.finds("/a/../", 2, slashed(bare(top)))
	w.finds("/a/b/..", 3, bare(on(a)))
	w.finds("/a/b/../b", 4, named(on(a), "b", on(b)))
	w.finds("/a/./b/.", 4, bare(on(b)))
	w.finds("../no", 2, missing(on(a), "no"))
	w.finds("...", 1, missing(on(b), "..."))
}

// P12.1: `..` stays at root alone: who walks above it comes past it only from below.
func TestRootBelow(t *testing.T) {
	w := empty(t)
	a := w.dir(1, "a")
	b := w.dir(a, "b")
	c := w.dir(b, "c")
	w.root = on(b)
	w.finds("..", 1, bare(top))
	w.finds(".", 1, bare(top))
	w.finds("a/..", 2, bare(top))
	w.finds("a/b/..", 3, bare(on(b)))
	w.finds("a/b/c/..", 4, bare(on(b)))
	w.finds("a/b/c/../../..", 6, bare(on(b)))
	w.finds("/..", 1, bare(on(b)))
	w.finds("/c/..", 2, bare(on(b)))
	w.finds("/c/../..", 3, bare(on(b)))
	w.from = on(c)
	w.finds("..", 1, bare(on(b)))
	w.finds("../..", 2, bare(on(b)))
	w.from = on(a)
	w.finds("..", 1, bare(top))
}

// P12.1, P12.2: names that are not there are told at the end, and refused in the middle.
func TestMissing(t *testing.T) {
	w := empty(t)
	a := w.dir(1, "a")
	w.from = on(a)
	w.finds("no", 1, missing(on(a), "no"))
	w.finds("no/", 1, slashed(missing(on(a), "no")))
	w.finds("no//", 1, slashed(missing(on(a), "no")))
	w.finds("/no", 1, missing(top, "no"))
	w.finds("/a/no", 2, missing(on(a), "no"))
	w.finds("/A", 1, missing(top, "A"))
	w.refuses("no/x", 1, api.NoEnt)
	w.refuses("no/.", 1, api.NoEnt)
	w.refuses("no/..", 1, api.NoEnt)
	w.refuses("/a/no/..", 2, api.NoEnt)
	w.refuses("/no/a/b/", 1, api.NoEnt)
	w.refuses("/a/../no/a", 3, api.NoEnt)
}

// P12.1, P12.2: in a File there is nothing, and a slash behind it asks for a Dir.
func TestFiles(t *testing.T) {
	w := empty(t)
	a := w.dir(1, "a")
	f := w.file(a, "f")
	w.from = on(a)
	w.finds("f", 1, named(on(a), "f", on(f)))
	w.finds("/a/f", 2, named(on(a), "f", on(f)))
	w.refuses("f/", 1, api.NotDir)
	w.refuses("f//", 1, api.NotDir)
	w.refuses("/a/f/", 2, api.NotDir)
	for _, path := range []string{"f/x", "f/.", "f/..", "f/x/", "f/x/y", "f/./.", "f/f"} {
		w.refuses(path, 2, api.NotDir)
		w.refuses("/a/"+path, 3, api.NotDir)
	}
}

// withoutX are modes in which one class alone has no X, and who is of that class of a node of {7 8}.
var withoutX = []struct {
	mode int
	who  api.Cred
}{
	{0o677, api.Cred{Uid: 7, Gid: 8}},
	{0o677, api.Cred{Uid: 7, Gid: 9}},
	{0o767, api.Cred{Uid: 5, Gid: 8}},
	{0o776, api.Cred{Uid: 5, Gid: 5}},
	{0o776, api.Cred{Uid: 8, Gid: 7}},
}

// P12.1: a Dir without X lets nothing be asked in it, whatever that is, but is found itself.
func TestNoAccess(t *testing.T) {
	w := empty(t)
	a := w.dir(1, "a")
	w.dir(a, "b")
	w.file(a, "f")
	w.link(a, "l", "b")
	w.link(a, "self", "self")
	w.tree.SetOwner(a, 7, 8)
	w.from = on(a)
	for _, c := range withoutX {
		w.who = c.who
		w.tree.SetMode(a, c.mode)
		for _, path := range []string{".", "..", "b", "f", "l", "self", "no", "./", "../", "b/", "f/", "no/", "b/x", "f/x", "no/x", "self/x", "../..", "./."} {
			w.refuses(path, 1, api.NoAccess)
			w.refuses("/a/"+path, 2, api.NoAccess)
		}
		w.finds("/a", 1, named(top, "a", on(a)))
		w.finds("/a/", 1, slashed(named(top, "a", on(a))))
		w.finds("/", 0, slashed(bare(top)))
	}
	w.who = api.Cred{Uid: 0, Gid: 5}
	w.tree.SetMode(a, 0)
	w.finds("b", 1, named(on(a), "b", on(3)))
	w.finds("..", 1, bare(top))
}

// P12.1: X is all that is asked, and that of the one class that counts.
func TestXAlone(t *testing.T) {
	w := empty(t)
	a := w.dir(1, "a")
	b := w.make(a, "b", api.Stat{Kind: api.Dir}, "")
	f := w.make(a, "f", api.Stat{Kind: api.File}, "")
	w.tree.SetOwner(a, 7, 8)
	for _, c := range withoutX {
		w.who = c.who
		w.tree.SetMode(a, 0o777&^c.mode)
		w.finds("/a/b", 2, named(on(a), "b", on(b)))
		w.finds("/a/f", 2, named(on(a), "f", on(f)))
		w.finds("/a/no", 2, missing(on(a), "no"))
		w.finds("/a/.", 2, bare(on(a)))
		w.finds("/a/..", 2, bare(top))
		w.refuses("/a/b/.", 3, api.NoAccess)
		w.refuses("/a/f/.", 3, api.NotDir)
	}
}

// P12.1: root's own X is asked, too, also where `..` stays, and so is that of a Dir that a Symlink leads to.
func TestNoAccessOfRoot(t *testing.T) {
	w := empty(t)
	a := w.dir(1, "a")
	w.link(a, "up", "/")
	w.tree.SetMode(1, 0o754)
	w.from = on(a)
	for _, path := range []string{"/a", "/.", "/..", "/no", "/a/.."} {
		w.refuses(path, 1, api.NoAccess)
	}
	w.finds("/", 0, slashed(bare(top)))
	w.finds("..", 1, bare(top))
	w.refuses("../a", 2, api.NoAccess)
	w.refuses("up/a", 2, api.NoAccess)
	w.refuses("up/..", 2, api.NoAccess)
	w.walks("up", true, slashed(bare(top)), api.OK, 1)
}

// P12.1: mounts are gone down into by names and by `..`, and up out of by `..`.
func TestMounts(t *testing.T) {
	w := empty(t)
	a := w.dir(1, "a")
	b := w.dir(a, "b")
	c := w.file(b, "c")
	p := w.dir(1, "p")
	q := w.dir(p, "q")
	w.dir(q, "hidden")
	m := w.bind(on(p), a)
	n := w.bind(at(m, b), q)
	w.finds("/p", 1, named(top, "p", at(m, a)))
	w.finds("/p/", 1, slashed(named(top, "p", at(m, a))))
	w.finds("/p/.", 2, bare(at(m, a)))
	w.finds("/p/..", 2, bare(top))
	w.finds("/p/q", 2, missing(at(m, a), "q"))
	w.finds("/p/b", 2, named(at(m, a), "b", at(n, q)))
	w.finds("/p/b/..", 3, bare(at(m, a)))
	w.finds("/p/b/hidden/..", 4, bare(at(n, q)))
	w.finds("/p/b/hidden/../../..", 6, bare(top))
	w.finds("/a/b", 2, named(on(a), "b", on(b)))
	w.finds("/a/b/..", 3, bare(on(a)))
	w.finds("/a/b/c", 3, named(on(b), "c", on(c)))
	w.from = on(p)
	w.finds(".", 1, bare(at(m, a)))
	w.finds("b", 1, named(at(m, a), "b", at(n, q)))
	w.finds("..", 1, bare(top))
	w.from = on(q)
	w.finds(".", 1, bare(on(q)))
	w.finds("..", 1, bare(at(m, a)))
	w.finds("../..", 2, bare(top))
	w.from = at(m, b)
	w.finds(".", 1, bare(at(n, q)))
	w.from = at(m, p)
	w.finds(".", 1, bare(at(m, p)))
	w.finds("..", 1, bare(at(m, 1)))
	w.finds("../..", 2, bare(at(m, 1)))
}

// P12.1: of mounts over mounts the last one counts, and `..` comes out of all of them.
func TestMountOverMount(t *testing.T) {
	w := empty(t)
	a, b, c := w.dir(1, "a"), w.dir(1, "b"), w.dir(1, "c")
	inA, inC := w.dir(a, "inA"), w.dir(c, "inC")
	first := w.bind(on(inA), b)
	second := w.bind(at(first, b), c)
	w.finds("/a/inA", 2, named(on(a), "inA", at(second, c)))
	w.finds("/a/inA/inC", 3, named(at(second, c), "inC", at(second, inC)))
	w.finds("/a/inA/..", 3, bare(on(a)))
	w.finds("/a/inA/inC/..", 4, bare(at(second, c)))
	w.finds("/b", 1, named(top, "b", on(b)))
	for _, from := range []api.Place{on(inA), at(first, b), at(second, c)} {
		w.from = from
		w.finds(".", 1, bare(at(second, c)))
		w.finds("..", 1, bare(on(a)))
		w.finds("../..", 2, bare(top))
	}
	third := w.bind(at(second, c), a)
	w.finds("/a/inA", 2, named(on(a), "inA", at(third, a)))
	w.finds("/a/inA/inA", 3, named(at(third, a), "inA", at(third, inA)))
	w.finds("/a/inA/..", 3, bare(on(a)))
	w.finds("/a/inA/inA/../..", 5, bare(on(a)))
}

// P12.1: root is meant Down: who is in a top that lies over it does not come out.
func TestMountOverRoot(t *testing.T) {
	w := empty(t)
	a := w.dir(1, "a")
	b := w.dir(a, "b")
	p := w.dir(1, "p")
	m := w.bind(top, a)
	for _, root := range []api.Place{top, at(m, a)} {
		for _, from := range []api.Place{top, at(m, a)} {
			w.root, w.from = root, from
			for _, path := range []string{".", "..", "/.", "/.."} {
				w.finds(path, 1, bare(at(m, a)))
			}
			w.finds("/", 0, slashed(bare(at(m, a))))
			w.finds("/b", 1, named(at(m, a), "b", at(m, b)))
			w.finds("/b/../..", 3, bare(at(m, a)))
			w.finds("../p", 2, missing(at(m, a), "p"))
		}
	}
	w.root, w.from = top, on(p)
	w.finds("..", 1, bare(at(m, a)))
	w.finds("../..", 2, bare(at(m, a)))
	n := w.bind(at(m, a), p)
	for _, root := range []api.Place{top, at(m, a), at(n, p)} {
		w.root = root
		w.finds("/..", 1, bare(at(n, p)))
		w.from = at(m, b)
		w.finds("..", 1, bare(at(n, p)))
		w.finds("../..", 2, bare(at(n, p)))
	}
}

// P12.1: root may be a top, or lie below one, or have a mount below it.
func TestRootUnderMounts(t *testing.T) {
	w := empty(t)
	a := w.dir(1, "a")
	b := w.dir(a, "b")
	p := w.dir(1, "p")
	m := w.bind(on(p), a)
	w.root = on(p)
	w.from = at(m, b)
	w.finds("/", 0, slashed(bare(at(m, a))))
	w.finds("..", 1, bare(at(m, a)))
	w.finds("../..", 2, bare(at(m, a)))
	w.from = on(b)
	w.finds("..", 1, bare(on(a)))
	w.finds("../..", 2, bare(top))
	w.root = on(a)
	w.finds("..", 1, bare(on(a)))
	w.finds("../..", 2, bare(on(a)))
	w.from = at(m, b)
	w.finds("..", 1, bare(at(m, a)))
	w.finds("../..", 2, bare(top))
	w.root = at(m, b)
	w.finds("/..", 1, bare(at(m, b)))
	w.finds("..", 1, bare(at(m, b)))
}

// P12.1: Symlinks in the middle and at the end, followed and not.
func TestSymlinks(t *testing.T) {
	w := empty(t)
	a := w.dir(1, "a")
	b := w.dir(a, "b")
	f := w.file(b, "f")
	l := w.link(1, "l", "a/b")
	abs := w.link(b, "abs", "/a")
	toFile := w.link(a, "file", "b/f")
	up := w.link(b, "up", "..")
	w.walks("/l", true, named(on(a), "b", on(b)), api.OK, 3)
	w.walks("/l", false, named(top, "l", on(l)), api.OK, 1)
	w.finds("/l/", 3, slashed(named(on(a), "b", on(b))))
	w.finds("/l/.", 4, bare(on(b)))
	w.finds("/l/..", 4, bare(on(a)))
	w.finds("/l/f", 4, named(on(b), "f", on(f)))
	w.finds("/l/no", 4, missing(on(b), "no"))
	w.refuses("/l/f/", 4, api.NotDir)
	w.refuses("/l/no/x", 4, api.NoEnt)
	w.walks("/a/b/abs", true, named(top, "a", on(a)), api.OK, 4)
	w.walks("/a/b/abs", false, named(on(b), "abs", on(abs)), api.OK, 3)
	w.finds("/a/b/abs/b/f", 6, named(on(b), "f", on(f)))
	w.walks("/l/abs", false, named(on(b), "abs", on(abs)), api.OK, 4)
	w.walks("/l/abs", true, named(top, "a", on(a)), api.OK, 5)
	w.walks("/a/file", true, named(on(b), "f", on(f)), api.OK, 4)
	w.walks("/a/file", false, named(on(a), "file", on(toFile)), api.OK, 2)
	w.refuses("/a/file/", 4, api.NotDir)
	w.refuses("/a/file/.", 5, api.NotDir)
	w.walks("/l/up", true, bare(on(a)), api.OK, 5)
	w.walks("/l/up", false, named(on(b), "up", on(up)), api.OK, 4)
	w.finds("/l/up/", 5, slashed(bare(on(a))))
	w.finds("/l/up/b/up/b/f", 10, named(on(b), "f", on(f)))
}

// P12.1: a text that is Root leads to root, Down, others go on in the Dir in which the Symlink's name was found.
func TestSymlinksBegin(t *testing.T) {
	w := empty(t)
	a := w.dir(1, "a")
	b := w.dir(a, "b")
	p := w.dir(1, "p")
	w.link(a, "to", "b")
	w.link(a, "abs", "/b")
	w.link(a, "root", "/")
	w.link(a, "up", "..")
	m := w.bind(on(p), a)
	w.walks("/p/to", true, named(at(m, a), "b", at(m, b)), api.OK, 3)
	w.walks("/p/up", true, bare(top), api.OK, 3)
	w.walks("/p/abs", true, missing(top, "b"), api.OK, 3)
	w.root = on(a)
	w.walks("/to", true, named(on(a), "b", on(b)), api.OK, 2)
	w.walks("/abs", true, named(on(a), "b", on(b)), api.OK, 2)
	w.walks("/up", true, bare(on(a)), api.OK, 2)
	w.from = at(m, b)
	w.walks("../abs", true, named(on(a), "b", on(b)), api.OK, 3)
	w.walks("../root", true, slashed(bare(on(a))), api.OK, 2)
	w.root, w.from = on(p), top
	w.walks("a/root", true, slashed(bare(at(m, a))), api.OK, 2)
	w.walks("a/abs", true, named(at(m, a), "b", at(m, b)), api.OK, 3)
	w.walks("a/to", true, named(on(a), "b", on(b)), api.OK, 3)
}

// P12.1: one node with two names is followed from the Dir in which it was found.
func TestSymlinkOfTwoNames(t *testing.T) {
	w := empty(t)
	a, b := w.dir(1, "a"), w.dir(1, "b")
	inA, inB := w.dir(a, "x"), w.dir(b, "x")
	l := w.link(a, "l", "x")
	w.tree.Join(b, "l", l)
	w.walks("/a/l", true, named(on(a), "x", on(inA)), api.OK, 3)
	w.walks("/b/l", true, named(on(b), "x", on(inB)), api.OK, 3)
}

// P12.1, P12.2: a text that is nothing but slashes leads to root, and to no name.
func TestSymlinkToRoot(t *testing.T) {
	w := empty(t)
	a := w.dir(1, "a")
	for s, text := range map[string]string{"one": "/", "three": "///"} {
		l := w.link(a, s, text)
		path := "/a/" + s
		w.walks(path, true, slashed(bare(top)), api.OK, 2)
		w.walks(path, false, named(on(a), s, on(l)), api.OK, 2)
		w.finds(path+"/", 2, slashed(bare(top)))
		w.finds(path+"/a", 3, named(top, "a", on(a)))
		w.finds(path+"/no", 3, missing(top, "no"))
		w.finds(path+"/..", 3, bare(top))
	}
}

// P12.1: a text's missing name is told as one of the path: at its end, else refused.
func TestSymlinkToNothing(t *testing.T) {
	w := empty(t)
	a := w.dir(1, "a")
	l := w.link(1, "l", "a/no")
	deep := w.link(1, "deep", "a/no/x")
	w.walks("/l", true, missing(on(a), "no"), api.OK, 3)
	w.walks("/l", false, named(top, "l", on(l)), api.OK, 1)
	w.finds("/l/", 3, slashed(missing(on(a), "no")))
	w.refuses("/l/x", 3, api.NoEnt)
	w.refuses("/l/.", 3, api.NoEnt)
	w.walks("/deep", true, walk.Found{}, api.NoEnt, 3)
	w.walks("/deep", false, named(top, "deep", on(deep)), api.OK, 1)
	w.refuses("/deep/", 3, api.NoEnt)
}

// P12.1: a text that ends with a slash gives it to the path, if nothing stands behind the Symlink.
func TestSymlinkWithSlash(t *testing.T) {
	w := empty(t)
	a := w.dir(1, "a")
	f := w.file(a, "f")
	w.link(1, "dir", "a/")
	w.link(1, "file", "a/f/")
	w.link(1, "no", "a/no/")
	w.link(1, "again", "dir")
	w.link(1, "once", "again/")
	w.link(1, "plain", "a")
	w.link(1, "fileOnce", "fileAgain/")
	w.link(1, "fileAgain", "a/f")
	w.walks("/dir", true, slashed(named(top, "a", on(a))), api.OK, 2)
	w.finds("/dir/", 2, slashed(named(top, "a", on(a))))
	w.finds("/dir/f", 3, named(on(a), "f", on(f)))
	w.finds("/dir/.", 3, bare(on(a)))
	w.finds("/dir/no", 3, missing(on(a), "no"))
	w.walks("/file", true, walk.Found{}, api.NotDir, 3)
	w.refuses("/file/", 3, api.NotDir)
	w.refuses("/file/x", 4, api.NotDir)
	w.walks("/no", true, slashed(missing(on(a), "no")), api.OK, 3)
	w.refuses("/no/x", 3, api.NoEnt)
	w.walks("/again", true, slashed(named(top, "a", on(a))), api.OK, 3)
	w.walks("/once", true, slashed(named(top, "a", on(a))), api.OK, 4)
	w.walks("/plain", true, named(top, "a", on(a)), api.OK, 2)
	w.walks("/fileOnce", true, walk.Found{}, api.NotDir, 4)
	w.walks("/fileAgain", true, named(on(a), "f", on(f)), api.OK, 3)
	w.finds("/again/f", 4, named(on(a), "f", on(f)))
}

// P12.1: what is refused of a text; a Symlink that is not followed is none the worse for it.
func TestTextRefused(t *testing.T) {
	w := empty(t)
	w.dir(1, "a")
	for i, c := range []struct {
		text string
		why  api.Errno
	}{
		{"", api.NoEnt},
		{"\x00", api.Invalid},
		{"a/\x00/b", api.Invalid},
		{"/a\x00", api.Invalid},
		{strings.Repeat("x", api.MaxName+1), api.NameLong},
		{"no/" + strings.Repeat("x", api.MaxName+1) + "/", api.NameLong},
		{strings.Repeat("x", api.MaxName+1) + "\x00", api.Invalid},
		{strings.Repeat("/", api.MaxPath+1), api.NameLong},
		{strings.Repeat("/", api.MaxPath) + "\x00", api.NameLong},
	} {
		s := fmt.Sprint("l", i)
		l := w.link(1, s, c.text)
		w.walks("/"+s, true, walk.Found{}, c.why, 1)
		w.walks("/"+s, false, named(top, s, on(l)), api.OK, 1)
		w.refuses("/"+s+"/", 1, c.why)
		w.refuses("/a/../"+s+"/x", 3, c.why)
		w.refuses("/"+s+"/.", 1, c.why)
	}
}

// P12.1: a text and what stands behind it, as name.Write has it, are at most MaxPath bytes together.
func TestLength(t *testing.T) {
	w := empty(t)
	a := w.dir(1, "a")
	for n := range 5 {
		w.link(1, fmt.Sprint("l", n), strings.Repeat("/", api.MaxPath-n))
	}
	// Nothing stands behind: a Slash alone is not counted.
	w.walks("l0", true, slashed(bare(top)), api.OK, 1)
	w.finds("l0/", 1, slashed(bare(top)))
	w.refuses("l0/a", 1, api.NameLong)
	w.refuses("l0/.", 1, api.NameLong)
	w.finds("l1/a", 2, named(top, "a", on(a)))
	w.refuses("l1/a/", 1, api.NameLong)
	w.finds("l2/a/", 2, slashed(named(top, "a", on(a))))
	w.refuses("l2/a/.", 1, api.NameLong)
	w.finds("l3/a/.", 3, bare(on(a)))
	w.refuses("l3/a/./", 1, api.NameLong)
	w.finds("l4/a/./", 3, slashed(bare(on(a))))
	// Slashes more are counted in the text, and not behind it; what stands ahead is not.
	w.finds("/l3//a///.", 3, bare(on(a)))
	w.finds("././l2///a////", 4, slashed(named(top, "a", on(a))))
	w.refuses("././l3/a/no", 3, api.NameLong)
}

// P12.1: what stands behind a Symlink counts as it is by then, with what others brought, and with their Slash.
func TestLengthBehindOthers(t *testing.T) {
	w := empty(t)
	a := w.dir(1, "a")
	w.link(1, "long", strings.Repeat("/", api.MaxPath-1))
	w.link(1, "plain", "long/a")
	w.link(1, "slash", "long/a/")
	w.link(1, "far", "long")
	w.walks("plain", true, named(top, "a", on(a)), api.OK, 3)
	w.refuses("plain/", 2, api.NameLong)
	w.walks("slash", true, walk.Found{}, api.NameLong, 2)
	w.refuses("slash/.", 2, api.NameLong)
	w.refuses("plain/.", 2, api.NameLong)
	w.finds("far/a", 3, named(top, "a", on(a)))
	w.refuses("far/a/", 2, api.NameLong)
	w.link(1, "rest", strings.Repeat("./", 1000))
	rest := strings.Repeat("/.", (api.MaxPath-2000)/2)
	w.finds("rest"+rest, 1+1000+len(rest)/2, bare(top))
	w.refuses("rest"+rest+"/.", 1, api.NameLong)
}

// P12.1: texts that lead to themselves are followed MaxFollow times.
func TestRings(t *testing.T) {
	w := empty(t)
	self := w.link(1, "self", "self")
	dots := w.link(1, "dots", "./../dots")
	w.link(1, "one", "two")
	w.link(1, "two", "/three")
	w.link(1, "three", "one")
	w.link(1, "grows", "grows/x")
	w.link(1, "slash", "slash/")
	for path, steps := range map[string]int{"/self": 41, "/dots": 1 + 40*3, "/one": 41, "/two": 41, "/grows": 41, "/slash": 41} {
		w.walks(path, true, walk.Found{}, api.Loop, steps)
		w.refuses(path+"/", steps, api.Loop)
		w.refuses(path+"/x", steps, api.Loop)
		w.refuses("/."+path+"/..", steps+1, api.Loop)
	}
	w.walks("/self", false, named(top, "self", on(self)), api.OK, 1)
	w.walks("/dots", false, named(top, "dots", on(dots)), api.OK, 1)
}

// P12.1: MaxFollow Symlinks are followed, in all, and one more is refused, whichever parts bring them.
func TestMaxFollow(t *testing.T) {
	w := empty(t)
	d := w.dir(1, "d")
	last := "d"
	for n := api.MaxFollow; n >= 0; n-- {
		w.link(1, fmt.Sprint("l", n), last)
		last = fmt.Sprint("l", n)
	}
	w.walks("l1", true, named(top, "d", on(d)), api.OK, 41)
	w.walks("l0", true, walk.Found{}, api.Loop, 41)
	w.finds("l1/", 41, slashed(named(top, "d", on(d))))
	w.refuses("l0/", 41, api.Loop)
	w.finds("l1/..", 42, bare(top))
	w.refuses("l0/..", 41, api.Loop)
	w.walks("l39/../l3", true, named(top, "d", on(d)), api.OK, 43)
	w.walks("l39/../l2", true, walk.Found{}, api.Loop, 43)
	w.link(1, "here", ".")
	here := strings.Repeat("here/", api.MaxFollow)
	w.finds(here+"d", 81, named(top, "d", on(d)))
	w.finds(here, 80, slashed(bare(top)))
	w.refuses(here+"here/", 81, api.Loop)
	w.refuses(here+"here/d", 81, api.Loop)
	w.walks(here+"here", true, walk.Found{}, api.Loop, 81)
	n, _ := w.tree.Find(1, "here")
	w.walks(here+"here", false, named(top, "here", on(n)), api.OK, 81)
}

// P12.1: which of several refusals comes first.
func TestFirstRefusal(t *testing.T) {
	w := empty(t)
	a := w.dir(1, "a")
	f := w.make(1, "f", api.Stat{Kind: api.File}, "")
	w.make(1, "shut", api.Stat{Kind: api.Dir}, "")
	w.link(1, "here", ".")
	w.link(1, "empty", "")
	w.link(1, "nought", "a\x00")
	w.link(1, "long", strings.Repeat("/", api.MaxPath))
	w.link(1, "both", strings.Repeat("/", api.MaxPath-1)+"\x00")
	w.link(1, "part", strings.Repeat("x", api.MaxName+1))
	here := strings.Repeat("here/", api.MaxFollow)
	for _, s := range []string{"empty", "nought", "long", "both", "part"} {
		w.refuses(here+s+"/x", 81, api.Loop)
	}
	w.refuses("empty/"+strings.Repeat("/", 3000)+strings.Repeat("x/", 500), 1, api.NoEnt)
	w.refuses("both/x", 1, api.NameLong)
	w.refuses("both/", 1, api.Invalid)
	w.refuses("nought/x/", 1, api.Invalid)
	w.refuses("part/x/", 1, api.NameLong)
	w.refuses("part/"+strings.Repeat("x/", 1500), 1, api.NameLong)
	w.refuses("f/..", 2, api.NotDir)
	w.refuses("f/no/x", 2, api.NotDir)
	w.refuses("shut/no/x", 2, api.NoAccess)
	w.refuses("no/shut/f/x", 1, api.NoEnt)
	w.refuses("a/f/x", 2, api.NoEnt)
	w.refuses("self/../f/x/", 1, api.NoEnt)
	w.walks("f", true, named(top, "f", on(f)), api.OK, 1)
	w.walks("a", true, named(top, "a", on(a)), api.OK, 1)
	w.tree.SetMode(1, 0o754)
	for _, path := range []string{"empty/x", "nought/x", "long/x", "no/x", here, "f/x", "f/"} {
		w.refuses(path, 1, api.NoAccess)
	}
}

// P12.1: a Dir that was removed while it is held is walked from; it is its own Up, and has nothing.
func TestRemoved(t *testing.T) {
	w := empty(t)
	a := w.dir(1, "a")
	b := w.dir(a, "b")
	w.remove(a, "b")
	w.from = on(b)
	w.finds(".", 1, bare(on(b)))
	w.finds("..", 1, bare(on(b)))
	w.finds("../..", 2, bare(on(b)))
	w.finds("no", 1, missing(on(b), "no"))
	w.finds("../a", 2, missing(on(b), "a"))
	w.refuses("no/x", 1, api.NoEnt)
	w.finds("/a", 1, named(top, "a", on(a)))
	w.finds("/a/b", 2, missing(on(a), "b"))
	w.root = on(b)
	w.finds("/..", 1, bare(on(b)))
	w.finds("/a", 1, missing(on(b), "a"))
	w.tree.SetMode(b, 0o700)
	w.refuses(".", 1, api.NoAccess)
	w.tree.Loose(b)
	w.refuses(".", 0, api.ErrArg)
	w.root = top
	w.refuses("/", 0, api.ErrArg)
}

// P12.1: a Dir that was removed may have a mount over it, or be a mount's top.
func TestRemovedUnderMounts(t *testing.T) {
	w := empty(t)
	a, b, p := w.dir(1, "a"), w.dir(1, "b"), w.dir(1, "p")
	over, gone := w.bind(on(b), a), w.bind(on(p), b)
	w.remove(1, "b")
	w.from = at(over, a)
	w.finds(".", 1, bare(at(over, a)))
	w.finds("..", 1, bare(at(over, a)))
	w.finds("/p", 1, named(top, "p", at(gone, b)))
	w.finds("/p/..", 2, bare(top))
	w.finds("/p/no", 2, missing(at(gone, b), "no"))
}

// P12.1: mounts may be laid at any place, with any node as a top: what is come to, Down, is what counts.
func TestMountsOfOtherKinds(t *testing.T) {
	w := empty(t)
	a := w.dir(1, "a")
	b := w.dir(a, "b")
	f := w.file(1, "f")
	l := w.link(1, "l", "a")
	p := w.dir(1, "p")
	q := w.dir(1, "q")
	inQ := w.dir(q, "inQ")
	overFile := w.bind(on(f), a)
	overLink := w.bind(on(l), b)
	isFile := w.bind(on(p), f)
	isLink := w.bind(on(q), l)
	w.finds("/f", 1, named(top, "f", at(overFile, a)))
	w.finds("/f/b", 2, named(at(overFile, a), "b", at(overFile, b)))
	w.finds("/l", 1, named(top, "l", at(overLink, b)))
	w.finds("/l/", 1, slashed(named(top, "l", at(overLink, b))))
	w.finds("/p", 1, named(top, "p", at(isFile, f)))
	w.refuses("/p/", 1, api.NotDir)
	w.refuses("/p/..", 2, api.NotDir)
	w.walks("/q", false, named(top, "q", at(isLink, l)), api.OK, 1)
	w.walks("/q", true, named(top, "a", on(a)), api.OK, 2)
	w.finds("/q/b", 3, named(on(a), "b", on(b)))
	w.from = on(inQ)
	w.finds("..", 1, bare(at(isLink, l)))
	w.refuses("../", 1, api.NotDir)
	w.refuses("../b", 2, api.NotDir)
	w.from = on(q)
	w.refuses(".", 1, api.NotDir)
	w.root = on(q)
	w.refuses("/", 0, api.NotDir)
	w.refuses("/b", 1, api.NotDir)
}

// P12.1: a mount's top need not be live; in it, and above where a mount lies on nothing, there is no Dir.
func TestMountsOfNothing(t *testing.T) {
	w := empty(t)
	a := w.dir(1, "a")
	dead := w.bind(on(a), 50)
	w.finds("/a", 1, named(top, "a", at(dead, 50)))
	w.refuses("/a/", 1, api.NotDir)
	w.refuses("/a/.", 2, api.NotDir)
	nowhere := w.bind(on(51), 1)
	w.from = at(nowhere, 1)
	w.finds(".", 1, bare(at(nowhere, 1)))
	w.finds("..", 1, bare(on(0)))
	w.refuses("../", 1, api.NotDir)
	w.refuses("../.", 2, api.NotDir)
}

// P12.3: a path and MaxFollow texts, each of as many parts as a path can have, and not one part more.
func TestMostParts(t *testing.T) {
	w := empty(t)
	const most = api.MaxPath / 2
	text := strings.Repeat("./", most-1) + "l"
	l := w.link(1, "l", text)
	w.walks(text, true, walk.Found{}, api.Loop, (api.MaxFollow+1)*most)
	w.refuses(text+"/", (api.MaxFollow+1)*most, api.Loop)
	w.walks(text, false, named(top, "l", on(l)), api.OK, most)
	// One that has parts behind itself brings no more than fits with them.
	w.link(1, "m", strings.Repeat("./", most-2)+"m")
	w.refuses("m/./.", 1+api.MaxFollow*(most-1), api.Loop)
	w.refuses("m/././", 1, api.NameLong)
}

// A walk holds nothing, takes no number of a node or of a mount, and lets nothing that is held go.
func TestTurnsNothing(t *testing.T) {
	w := empty(t)
	a := w.dir(1, "a")
	held := w.dir(a, "held")
	f := w.file(a, "f")
	l := w.link(1, "l", "a")
	w.remove(a, "held")
	m := w.bind(on(a), a)
	for _, from := range []int{1, a, held, f, l} {
		w.from = on(from)
		for _, path := range []string{"", "/", ".", "..", "no", "no/x", "/a/f", "/a/f/", "/l", "/l/", "/l/f/x", "/a/..", "../.."} {
			for _, follow := range []bool{false, true} {
				walk.Walk(w.tree, w.mounts, w.root, w.from, w.who, path, follow)
				walk.Steps(w.tree, w.mounts, w.root, w.from, w.who, path, follow)
			}
			walk.Place(w.tree, w.mounts, w.from)
		}
	}
	for _, n := range []int{1, a, f, l} {
		if why := w.tree.Loose(n); why != api.ErrPast {
			t.Errorf("Loose(%d), which nobody held: %v", n, why)
		}
	}
	if why := w.tree.Loose(held); why != api.OK {
		t.Errorf("Loose(%d), which was held once: %v", held, why)
	}
	if _, live := w.tree.Stat(held); live {
		t.Errorf("%d is live still", held)
	}
	if n := w.dir(1, "next"); n != l+1 {
		t.Errorf("the next node is %d, want %d", n, l+1)
	}
	if n := w.bind(on(l), 1); n != m+1 {
		t.Errorf("the next mount is %d, want %d", n, m+1)
	}
}

// R2: Last is new memory: it shares none with the path, with a text, or with another answer.
func TestNewMemory(t *testing.T) {
	w := empty(t)
	w.dir(1, "name")
	w.link(1, "link", "name")
	for _, path := range []string{"name", "/name", "link", "none", "link/none"} {
		b := []byte(path)
		found, why := walk.Walk(w.tree, w.mounts, top, top, w.who, textIn(b), true)
		if why != api.OK {
			t.Fatalf("%s: %v", path, why)
		}
		last := strings.Clone(found.Last)
		clear(b)
		if found.Last != last {
			t.Errorf("%s: Last was %q, and is %q, once the path's memory is another's", path, last, found.Last)
		}
		again, _ := walk.Walk(w.tree, w.mounts, top, top, w.who, path, true)
		if unsafe.StringData(again.Last) == unsafe.StringData(found.Last) {
			t.Errorf("%s: two answers share their Last", path)
		}
	}
}

// textIn answers the bytes as a text that lies in their memory.
func textIn(b []byte) string { return unsafe.String(&b[0], len(b)) }
