package dirop_test

import (
	"fmt"
	"math"
	"reflect"
	"strconv"
	"strings"
	"testing"

	"warren/api"
	"warren/dirop"
	"warren/mount"
	"warren/tree"
	"warren/walk"
)

// odd are numbers that no test gives a node or a mount.
var odd = []int{-1, 99, math.MaxInt, math.MinInt}

func at(m, n int) api.Place { return api.Place{Mount: m, Node: n} }

// top is the root of all.
var top = at(0, 1)

var (
	root  = api.Cred{}
	other = api.Cred{Uid: 7, Gid: 7}
)

// ops are the calls that are done here, by their names.
var ops = map[int]string{
	api.Mkdir: "Mkdir", api.Rmdir: "Rmdir", api.Truncate: "Truncate", api.Link: "Link", api.Unlink: "Unlink", api.Link2: "Link2", api.Readlink: "Readlink", api.Rename: "Rename",
	api.Info: "Info", api.Chmod: "Chmod", api.Chown: "Chown", api.Chdir: "Chdir", api.List: "List", api.Bind: "Bind", api.Unbind: "Unbind",
}

// world is one in which calls are done, and who does them.
type world struct {
	t *testing.T
	dirop.World
	dirop.Who
}

// sized answers a world of the root alone, in which the root calls.
func sized(t *testing.T, nodes, blocks int) *world {
	t.Helper()
	x, why := tree.New(nodes, blocks)
	if why != api.OK {
		t.Fatal(why)
	}
	return &world{t, dirop.World{T: x, M: mount.New(1), Root: top}, dirop.Who{Cwd: top}}
}

// made answers a world that the words make, one behind the other: "d/a" is a Dir, "f/a" a File, "s/a=text" a Symlink, each of which may have a mode (octal) and an owner, "d/a:1777:5:6"; "h/b=/a" a second name of /a; "m/b=/a" a mount of /a at /b, which holds both.
func made(t *testing.T, words string) *world {
	t.Helper()
	w := sized(t, api.MaxNodes, api.MaxBlocks)
	w.add(words)
	return w
}

func (w *world) add(words string) {
	w.t.Helper()
	for _, word := range strings.Fields(words) {
		kind := word[0]
		path, text, _ := strings.Cut(word[1:], "=")
		path, rights, _ := strings.Cut(path, ":")
		switch kind {
		case 'm':
			w.lay(path, text)
		case 'h':
			f := w.find(path)
			w.must(w.T.Join(f.Dir.Node, f.Last, w.node(text)), word)
		default:
			f := w.find(path)
			_, why := w.T.Make(f.Dir.Node, f.Last, stat(kind, rights), text)
			w.must(why, word)
		}
	}
}

// stat answers the rights of one of that kind, as the words tell them.
func stat(kind byte, rights string) api.Stat {
	st := map[byte]api.Stat{'d': {Kind: api.Dir, Mode: 0o755}, 'f': {Kind: api.File, Mode: 0o644}, 's': {Kind: api.Symlink, Mode: 0o777}}[kind]
	if rights == "" {
		return st
	}
	told := strings.Split(rights, ":")
	mode, _ := strconv.ParseInt(told[0], 8, 0)
	st.Mode = int(mode)
	if len(told) == 3 {
		st.Uid, _ = strconv.Atoi(told[1])
		st.Gid, _ = strconv.Atoi(told[2])
	}
	return st
}

func (w *world) must(why api.Errno, what string) {
	w.t.Helper()
	if why != api.OK {
		w.t.Fatalf("%s: %v", what, why)
	}
}

// find answers what the root comes to by the path.
func (w *world) find(path string) walk.Found {
	w.t.Helper()
	f, why := walk.Walk(w.T, w.M, top, top, root, path, false)
	w.must(why, path)
	return f
}

func (w *world) node(path string) int {
	w.t.Helper()
	return w.find(path).At.Node
}

// stat tells what has that name.
func (w *world) stat(path string) api.Stat {
	w.t.Helper()
	st, live := w.T.Stat(w.node(path))
	if !live {
		w.t.Fatalf("%s is not live", path)
	}
	return st
}

// lay lets a mount of what has one name lie at another, which may be no Dirs, and both be held.
func (w *world) lay(path, of string) {
	w.t.Helper()
	node, place := w.node(of), w.find(path).At
	_, why := w.M.Bind(place, node)
	w.must(why, "Bind")
	w.must(w.T.Hold(node), "Hold")
	w.must(w.T.Hold(place.Node), "Hold")
}

// into lets who calls stand in a Dir that loses its name then.
func (w *world) into(path string) {
	w.t.Helper()
	f := w.find(path)
	w.must(w.T.Hold(f.At.Node), "Hold")
	w.must(w.T.Part(f.Dir.Node, f.Last), "Part")
	w.Cwd = f.At
}

func (w *world) as(c api.Cred) *world {
	w.Cred = c
	return w
}

// names tells what the Dir holds.
func (w *world) names(path string, want ...string) {
	w.t.Helper()
	if got := w.T.Names(w.node(path)); fmt.Sprint(got) != fmt.Sprint(want) {
		w.t.Errorf("%s holds %v, want %v", path, got, want)
	}
}

// holds answers how often the node is held. (Not of one without a name, which would not come through that.)
func holds(x *tree.Tree, n int) int {
	held := 0
	for x.Loose(n) == api.OK {
		held++
	}
	for range held {
		x.Hold(n)
	}
	return held
}

// look tells all that can be asked of the tree and of the mounts.
func look(w dirop.World) string {
	var b strings.Builder
	fmt.Fprint(&b, w.T.Live(), w.T.Left(), w.M.List())
	for _, n := range w.T.Live() {
		st, _ := w.T.Stat(n)
		fmt.Fprint(&b, "\n", st, w.T.Up(n), w.T.Text(n), w.M.Covered(n))
		if st.Links > 0 {
			fmt.Fprint(&b, " held ", holds(w.T, n))
		}
		for _, s := range w.T.Names(n) {
			node, _ := w.T.Find(n, s)
			fmt.Fprint(&b, " ", s, node)
		}
		bytes, why := w.T.Read(n, 0, api.MaxSize)
		fmt.Fprint(&b, bytes, int(why))
		for _, m := range w.M.List() {
			p, is := w.M.Up(at(m, n))
			fmt.Fprint(&b, w.M.Down(at(m, n)), p, is)
		}
	}
	for _, m := range w.M.List() {
		r, _ := w.M.Root(m)
		fmt.Fprint(&b, "\n", m, r, w.M.Above(m))
	}
	return b.String()
}

// same tells whether two results are, nil and empty lists too.
func same(a, b api.Result) bool {
	if len(a.Data)+len(b.Data) == 0 {
		a.Data, b.Data = nil, nil
	}
	if len(a.Names)+len(b.Names) == 0 {
		a.Names, b.Names = nil, nil
	}
	return reflect.DeepEqual(a, b)
}

func told(c api.Call) string {
	s := fmt.Sprintf("%s(%.60q, %.60q)", ops[c.Op], c.Path, c.To)
	c.Path, c.To = "", ""
	return fmt.Sprintf("%s of %+v", s, c)
}

// answers does the call, and asks what comes of it.
func (w *world) answers(c api.Call, want api.Result, place api.Place) {
	w.t.Helper()
	got, p := dirop.Do(w.World, w.Who, c)
	if !same(got, want) || p != place {
		w.t.Errorf("%s by %v: %+v, %v, want %+v, %v", told(c), w.Who, got, p, want, place)
	}
}

// does asks that the call be done and tell nothing.
func (w *world) does(op int, names ...string) {
	w.t.Helper()
	w.done(call(op, names...))
}

func (w *world) done(c api.Call) {
	w.t.Helper()
	w.answers(c, api.Result{}, api.Place{})
}

// tells asks what the call tells, and that it turned nothing.
func (w *world) tells(c api.Call, want api.Result, place api.Place) {
	w.t.Helper()
	was := look(w.World)
	w.answers(c, want, place)
	if is := look(w.World); is != was {
		w.t.Errorf("%s by %v turned\n%s into\n%s", told(c), w.Who, was, is)
	}
}

// refuses asks for a refusal, beside which nothing is told, and which turned nothing.
func (w *world) refuses(why api.Errno, op int, names ...string) {
	w.t.Helper()
	w.refused(why, call(op, names...))
}

func (w *world) refused(why api.Errno, c api.Call) {
	w.t.Helper()
	w.tells(c, api.Result{Why: why}, api.Place{})
}

// call answers one of that Path, and of that To, if it is told.
func call(op int, names ...string) api.Call {
	c := api.Call{Op: op, Path: names[0]}
	if len(names) > 1 {
		c.To = names[1]
	}
	return c
}

// Is: the calls that are told in the chapter, and no others.
func TestIs(t *testing.T) {
	for op := -3; op < 30; op++ {
		if _, is := ops[op]; dirop.Is(op) != is {
			t.Errorf("Is(%d): %v", op, !is)
		}
	}
	for _, op := range odd {
		if dirop.Is(op) {
			t.Errorf("Is(%d): true", op)
		}
	}
	for _, op := range []int{api.Open, api.Close, api.Read, api.Write, api.Seek} {
		if dirop.Is(op) {
			t.Errorf("Is(%d): true", op)
		}
	}
}

// all answers a call of each kind that finds something to do in the world of words.
func all() []api.Call {
	return []api.Call{
		call(api.Mkdir, "/new"), call(api.Rmdir, "/e"), call(api.Unlink, "/f"), call(api.Link, "/f", "/g"), call(api.Link2, "/f", "/g"), call(api.Readlink, "/s"), call(api.Rename, "/f", "/g"),
		call(api.Info, "/f"), call(api.Chmod, "/f"), call(api.Chown, "/f"), {Op: api.Truncate, Path: "/f", N: 5}, call(api.List, "/"), call(api.Chdir, "/e"), call(api.Bind, "/e", "/e2"), call(api.Unbind, "/m"),
	}
}

const words = "f/f:666 d/e d/e2 s/s=f d/m m/m=/e2"

// P13.1: ErrArg comes ahead of all: without T or M, and of an Op that is none.
func TestArguments(t *testing.T) {
	calls := all()
	if len(calls) != len(ops) {
		t.Fatalf("%d calls of %d", len(calls), len(ops))
	}
	for _, who := range []dirop.Who{{Cwd: top}, {Cwd: top, Cred: other}, {}} {
		w := made(t, words)
		for _, c := range append(calls, call(api.Link2, ""), call(api.Mkdir, ""), call(api.Open, "/f"), call(0, "")) {
			for _, none := range []dirop.World{{T: w.T, Root: top}, {M: w.M, Root: top}, {Root: top}, {}} {
				was := look(w.World)
				got, p := dirop.Do(none, who, c)
				if !same(got, api.Result{Why: api.ErrArg}) || p != (api.Place{}) {
					t.Errorf("%s without T or M: %+v, %v", told(c), got, p)
				}
				if is := look(w.World); is != was {
					t.Errorf("%s without T or M turned\n%s into\n%s", told(c), was, is)
				}
			}
		}
		w.Who = who
		for _, op := range append([]int{0, api.Open, api.Close, api.Read, api.Write, api.Seek, api.Unbind + 1, -api.Mkdir, 256 + api.Mkdir}, odd...) {
			for _, path := range []string{"", "/", "/f", "/no"} {
				w.refused(api.ErrArg, api.Call{Op: op, Path: path, To: "/new", N: 1, Data: []byte("x")})
			}
		}
	}
}

// P13.1: each of the calls is done in that world, so that what is refused above is refused for that alone.
func TestAllAreDone(t *testing.T) {
	for _, c := range all() {
		w := made(t, words)
		r, p := dirop.Do(w.World, w.Who, c)
		tells := len(r.Data)+len(r.Names) > 0 || r.Stat != (api.Stat{}) || p != (api.Place{})
		if r.Why != api.OK || r.N != 0 {
			t.Errorf("%s: %+v", told(c), r)
		}
		if want := c.Op == api.Readlink || c.Op == api.List || c.Op == api.Info || c.Op == api.Chdir; tells != want {
			t.Errorf("%s tells %+v, %v", told(c), r, p)
		}
	}
}

// P13.1: `walk` is of Root and Cwd: it refuses what is no place, whether the path begins there or not. What is refused ahead of a walk is so here, too.
func TestNoPlace(t *testing.T) {
	w := made(t, words+" d/gone")
	gone := w.node("/gone")
	w.must(w.T.Part(1, "gone"), "Part")
	wrong := []api.Place{{}, at(0, gone), at(2, 1), at(2, gone)}
	for _, n := range odd {
		wrong = append(wrong, at(0, n), at(n, 1))
	}
	for _, p := range wrong {
		for _, places := range []struct{ root, cwd api.Place }{{p, top}, {top, p}, {p, p}} {
			w.Root, w.Cwd = places.root, places.cwd
			for _, who := range []api.Cred{root, other} {
				w.Cred = who
				for _, c := range all() {
					why := api.ErrArg
					if who != root && (c.Op == api.Bind || c.Op == api.Unbind) {
						why = api.NoPerm
					}
					w.refused(why, c)
				}
				w.refuses(api.NoEnt, api.Link2, "", "/new")
				w.refuses(api.NameLong, api.Link2, strings.Repeat("x", api.MaxPath+1), "/new")
				w.refuses(api.Invalid, api.Link2, "\x00", "/new")
				w.refuses(api.ErrArg, api.Mkdir, "")
			}
		}
	}
}

// P13.1: all that walk.Walk refuses of Path is refused, ahead of what else is wrong.
func TestWalkRefusesPath(t *testing.T) {
	w := made(t, words+" d/dark:766 f/dark/f s/loop=loop s/empty= s/dir=e s/no=none")
	long := strings.Repeat("x", api.MaxName+1)
	for op := range ops {
		if op == api.Link2 {
			continue
		}
		for _, c := range []struct {
			path string
			why  api.Errno
		}{
			{"", api.NoEnt}, {"/no/x", api.NoEnt}, {"/none/x", api.NoEnt}, {"/empty/x", api.NoEnt}, {"/f/x", api.NotDir}, {"/f/.", api.NotDir}, {"/f/", api.NotDir}, {"/s/", api.NotDir}, {"/s/x", api.NotDir},
			{"/loop/x", api.Loop}, {"/loop/", api.Loop}, {"/\x00", api.Invalid}, {long, api.NameLong}, {"/" + strings.Repeat("./", api.MaxPath/2), api.NameLong},
		} {
			w.as(root).refused(c.why, api.Call{Op: op, Path: c.path, To: "/\x00", N: -2, M: -2})
		}
		if op == api.Bind || op == api.Unbind {
			continue
		}
		for _, path := range []string{"/dark/f", "/dark/.", "/dark/..", "/dark/no", "/dark/f/x"} {
			w.as(other).refused(api.NoAccess, api.Call{Op: op, Path: path, To: "/\x00", N: -2, M: -2})
		}
	}
}

// P13.1: and so it is of To, where To is walked.
func TestWalkRefusesTo(t *testing.T) {
	w := made(t, words+" d/dark:766 f/dark/f s/loop=loop s/empty=")
	long := strings.Repeat("x", api.MaxName+1)
	for _, op := range []int{api.Link, api.Link2, api.Rename, api.Bind} {
		from := "/f"
		if op == api.Bind {
			from = "/e"
		}
		for _, c := range []struct {
			to  string
			why api.Errno
		}{
			{"", api.NoEnt}, {"/no/x", api.NoEnt}, {"/empty/x", api.NoEnt}, {"/f/x", api.NotDir}, {"/f/", api.NotDir}, {"/s/", api.NotDir},
			{"/loop/x", api.Loop}, {"/loop/", api.Loop}, {"/\x00", api.Invalid}, {long, api.NameLong}, {"/" + strings.Repeat("./", api.MaxPath/2), api.NameLong},
		} {
			w.as(root).refuses(c.why, op, from, c.to)
		}
		if op != api.Bind {
			w.as(other).refuses(api.NoAccess, op, from, "/dark/new")
			w.as(other).refuses(api.NoAccess, op, from, "/dark/f")
		}
	}
	for _, op := range []int{api.Mkdir, api.Rmdir, api.Unlink, api.Readlink, api.Info, api.Chmod, api.Chown, api.Truncate, api.List, api.Chdir, api.Unbind} {
		for _, c := range all() {
			if c.Op == op {
				w := made(t, words)
				c.To = "/f/x\x00"
				if r, _ := dirop.Do(w.World, w.Who, c); r.Why != api.OK {
					t.Errorf("%s, which asks for no To: %v", told(c), r.Why)
				}
			}
		}
	}
}

// P13.1: paths begin at Root or at Cwd, and go by what each of them is Down.
func TestWhere(t *testing.T) {
	w := made(t, "d/a d/a/b d/p d/q m/p=/a")
	a, b := w.node("/a"), w.node("/a/b")
	w.Root, w.Cwd = at(0, a), at(0, w.node("/q"))
	w.tells(call(api.Chdir, "/"), api.Result{}, at(0, a))
	w.tells(call(api.Chdir, "/.."), api.Result{}, at(0, a))
	w.tells(call(api.Chdir, "/b"), api.Result{}, at(0, b))
	w.tells(call(api.Chdir, "."), api.Result{}, w.Cwd)
	w.tells(call(api.Chdir, "../p/b"), api.Result{}, at(1, b))
	w.does(api.Mkdir, "/n")
	w.does(api.Mkdir, "n")
	w.does(api.Rename, "n", "../n")
	w.names("/", "a", "n", "p", "q")
	w.names("/a", "b", "n")
	w.Cwd = at(0, 4)
	w.does(api.Mkdir, "m")
	w.names("/a", "b", "m", "n")
}
