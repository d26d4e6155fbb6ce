package dirop_test

import (
	"fmt"
	"math"
	"math/rand"
	"reflect"
	"strings"
	"testing"

	"warren/api"
	"warren/dirop"
	"warren/mount"
	"warren/tree"
	"warren/walk"
)

// telling does a call by the chapter's words, one behind the other, in a world of its own.
type telling struct {
	dirop.World
	dirop.Who
	c api.Call
}

// answer is what Do answers.
type answer struct {
	r api.Result
	p api.Place
}

func no(why api.Errno) answer { return answer{r: api.Result{Why: why}} }

func (k telling) do() answer {
	switch c := k.c; c.Op {
	case api.Mkdir:
		return k.mkdir()
	case api.Rmdir, api.Unlink:
		return k.take()
	case api.Link:
		return k.link()
	case api.Link2:
		return k.symlink()
	case api.Rename:
		return k.rename()
	case api.Readlink, api.Info:
		return k.look()
	case api.Chmod, api.Chown, api.Truncate:
		return k.turn()
	case api.List, api.Chdir:
		return k.inside()
	case api.Bind:
		return k.bind()
	case api.Unbind:
		return k.unbind()
	}
	return no(api.ErrArg)
}

func (k telling) walk(path string, follow bool) (walk.Found, api.Errno) {
	return walk.Walk(k.T, k.M, k.Root, k.Cwd, k.Cred, path, follow)
}

func (k telling) kind(f walk.Found) int {
	st, _ := k.T.Stat(f.At.Node)
	return st.Kind
}

// may tells whether a bit of the class that counts is set: 4 to read, 2 to write, 1 to pass.
func (k telling) may(node, bit int) bool {
	st, _ := k.T.Stat(node)
	if k.Cred.Uid == st.Uid {
		return k.Cred.Uid == 0 || st.Mode/64&bit != 0
	}
	if k.Cred.Gid == st.Gid {
		return k.Cred.Uid == 0 || st.Mode/8&bit != 0
	}
	return k.Cred.Uid == 0 || st.Mode&bit != 0
}

func (k telling) sticky(f walk.Found) bool {
	dir, _ := k.T.Stat(f.Dir.Node)
	st, _ := k.T.Stat(f.At.Node)
	return dir.Mode&0o1000 != 0 && k.Cred.Uid != 0 && k.Cred.Uid != dir.Uid && k.Cred.Uid != st.Uid
}

func (k telling) busy(f walk.Found) bool {
	return f.At.Mount != f.Dir.Mount || k.M.Covered(f.At.Node)
}

func (k telling) mkdir() answer {
	f, why := k.walk(k.c.Path, false)
	if why != api.OK {
		return no(why)
	}
	if f.Has || f.Last == "" {
		return no(api.Exists)
	}
	if !k.may(f.Dir.Node, 2) {
		return no(api.NoAccess)
	}
	_, why = k.T.Make(f.Dir.Node, f.Last, api.Stat{Kind: api.Dir, Mode: k.c.Mode & 1023, Uid: k.Cred.Uid, Gid: k.Cred.Gid}, "")
	return no(why)
}

func (k telling) take() answer {
	f, why := k.walk(k.c.Path, false)
	if why != api.OK {
		return no(why)
	}
	if !f.Has {
		return no(api.NoEnt)
	}
	if f.Last == "" {
		return no(api.Invalid)
	}
	if k.c.Op == api.Rmdir && k.kind(f) != api.Dir {
		return no(api.NotDir)
	}
	if k.c.Op == api.Unlink && k.kind(f) == api.Dir {
		return no(api.IsDir)
	}
	if k.busy(f) {
		return no(api.MountBusy)
	}
	if !k.may(f.Dir.Node, 2) {
		return no(api.NoAccess)
	}
	if k.sticky(f) {
		return no(api.NoPerm)
	}
	return no(k.T.Part(f.Dir.Node, f.Last))
}

func (k telling) link() answer {
	f, why := k.walk(k.c.Path, false)
	if why != api.OK {
		return no(why)
	}
	if !f.Has {
		return no(api.NoEnt)
	}
	if k.kind(f) == api.Dir {
		return no(api.NoPerm)
	}
	to, why := k.walk(k.c.To, false)
	if why != api.OK {
		return no(why)
	}
	if to.Has || to.Last == "" {
		return no(api.Exists)
	}
	if to.Slash {
		return no(api.NoEnt)
	}
	if to.Dir.Mount != f.At.Mount {
		return no(api.CrossDev)
	}
	if !k.may(to.Dir.Node, 2) {
		return no(api.NoAccess)
	}
	return no(k.T.Join(to.Dir.Node, to.Last, f.At.Node))
}

func (k telling) symlink() answer {
	if k.c.Path == "" {
		return no(api.NoEnt)
	}
	if len(k.c.Path) > 4096 {
		return no(api.NameLong)
	}
	if strings.IndexByte(k.c.Path, 0) >= 0 {
		return no(api.Invalid)
	}
	to, why := k.walk(k.c.To, false)
	if why != api.OK {
		return no(why)
	}
	if to.Has || to.Last == "" {
		return no(api.Exists)
	}
	if to.Slash {
		return no(api.NoEnt)
	}
	if !k.may(to.Dir.Node, 2) {
		return no(api.NoAccess)
	}
	_, why = k.T.Make(to.Dir.Node, to.Last, api.Stat{Kind: api.Symlink, Mode: 511, Uid: k.Cred.Uid, Gid: k.Cred.Gid}, k.c.Path)
	return no(why)
}

func (k telling) rename() answer {
	f, why := k.walk(k.c.Path, false)
	if why != api.OK {
		return no(why)
	}
	to, why := k.walk(k.c.To, false)
	if why != api.OK {
		return no(why)
	}
	isDir := k.kind(f) == api.Dir
	if !f.Has {
		return no(api.NoEnt)
	}
	if f.Last == "" || to.Last == "" {
		return no(api.MountBusy)
	}
	if to.Slash && !to.Has && !isDir {
		return no(api.NotDir)
	}
	if f.Dir.Mount != to.Dir.Mount {
		return no(api.CrossDev)
	}
	if k.busy(f) || to.Has && k.busy(to) {
		return no(api.MountBusy)
	}
	if !k.may(f.Dir.Node, 2) || !k.may(to.Dir.Node, 2) {
		return no(api.NoAccess)
	}
	if k.sticky(f) || to.Has && k.sticky(to) {
		return no(api.NoPerm)
	}
	if isDir && f.Dir.Node != to.Dir.Node && !k.may(f.At.Node, 2) {
		return no(api.NoAccess)
	}
	return no(k.T.Move(f.Dir.Node, f.Last, to.Dir.Node, to.Last))
}

func (k telling) look() answer {
	f, why := k.walk(k.c.Path, k.c.Op == api.Info && k.c.Flags&64 == 0)
	if why != api.OK {
		return no(why)
	}
	if !f.Has {
		return no(api.NoEnt)
	}
	st, _ := k.T.Stat(f.At.Node)
	if k.c.Op == api.Info {
		return answer{r: api.Result{Stat: st}}
	}
	if st.Kind != api.Symlink {
		return no(api.NotSymlink)
	}
	return answer{r: api.Result{Data: []byte(k.T.Text(f.At.Node))}}
}

func (k telling) turn() answer {
	f, why := k.walk(k.c.Path, true)
	if why != api.OK {
		return no(why)
	}
	if !f.Has {
		return no(api.NoEnt)
	}
	st, _ := k.T.Stat(f.At.Node)
	switch k.c.Op {
	case api.Chmod:
		if k.Cred.Uid != 0 && k.Cred.Uid != st.Uid {
			return no(api.NoPerm)
		}
		return no(k.T.SetMode(f.At.Node, k.c.Mode&4095))
	case api.Chown:
		if k.c.N < -1 || k.c.M < -1 {
			return no(api.Invalid)
		}
		if k.Cred.Uid != 0 {
			return no(api.NoPerm)
		}
		if k.c.N >= 0 {
			st.Uid = k.c.N
		}
		if k.c.M >= 0 {
			st.Gid = k.c.M
		}
		return no(k.T.SetOwner(f.At.Node, st.Uid, st.Gid))
	}
	if st.Kind == api.Dir {
		return no(api.IsDir)
	}
	if k.c.N < 0 {
		return no(api.Invalid)
	}
	if !k.may(f.At.Node, 2) {
		return no(api.NoAccess)
	}
	return no(k.T.Cut(f.At.Node, k.c.N))
}

func (k telling) inside() answer {
	f, why := k.walk(k.c.Path, true)
	if why != api.OK {
		return no(why)
	}
	if !f.Has {
		return no(api.NoEnt)
	}
	if k.kind(f) != api.Dir {
		return no(api.NotDir)
	}
	if k.c.Op == api.List {
		if !k.may(f.At.Node, 4) {
			return no(api.NoAccess)
		}
		return answer{r: api.Result{Names: k.T.Names(f.At.Node)}}
	}
	if !k.may(f.At.Node, 1) {
		return no(api.NoAccess)
	}
	return answer{p: f.At}
}

func (k telling) bind() answer {
	if k.Cred.Uid != 0 {
		return no(api.NoPerm)
	}
	var found [2]walk.Found
	for i, path := range []string{k.c.Path, k.c.To} {
		f, why := k.walk(path, true)
		if why != api.OK {
			return no(why)
		}
		if !f.Has {
			return no(api.NoEnt)
		}
		if k.kind(f) != api.Dir {
			return no(api.NotDir)
		}
		found[i] = f
	}
	if len(k.M.List()) == 8 {
		return no(api.NoSpace)
	}
	k.M.Bind(found[1].At, found[0].At.Node)
	k.T.Hold(found[0].At.Node)
	k.T.Hold(found[1].At.Node)
	return answer{}
}

func (k telling) unbind() answer {
	if k.Cred.Uid != 0 {
		return no(api.NoPerm)
	}
	f, why := k.walk(k.c.Path, true)
	if why != api.OK {
		return no(why)
	}
	if !f.Has {
		return no(api.NoEnt)
	}
	if node, _ := k.M.Root(f.At.Mount); f.At.Mount == 0 || node != f.At.Node {
		return no(api.Invalid)
	}
	if len(k.M.Above(f.At.Mount)) > 0 {
		return no(api.MountBusy)
	}
	p, _ := k.M.Up(f.At)
	k.M.Unbind(f.At.Mount)
	k.T.Loose(f.At.Node)
	k.T.Loose(p.Node)
	return answer{}
}

// twins are two worlds in which the same was done, in one of them by the chapter's words.
type twins struct {
	t    *testing.T
	w, k dirop.World
}

// both does the same in both worlds.
func (x twins) both(f func(w dirop.World)) {
	f(x.w)
	f(x.k)
}

func newTwins(t *testing.T, nodes, blocks int) twins {
	var ws [2]dirop.World
	for i := range ws {
		x, why := tree.New(nodes, blocks)
		if why != api.OK {
			t.Fatal(why)
		}
		ws[i] = dirop.World{T: x, M: mount.New(1), Root: top}
	}
	return twins{t, ws[0], ws[1]}
}

// do does the call in both worlds, and holds what is answered against each other.
func (x twins) do(who dirop.Who, c api.Call) answer {
	x.t.Helper()
	want := telling{x.k, who, c}.do()
	r, p := dirop.Do(x.w, who, c)
	if !same(r, want.r) || p != want.p {
		x.t.Fatalf("%s by %v: %+v, %v, want %+v in\n%s", told(c), who, r, p, want, look(x.w))
	}
	return want
}

// alike asks that both worlds tell the same, and answers what.
func (x twins) alike() string {
	x.t.Helper()
	w, k := look(x.w), look(x.k)
	if w != k {
		x.t.Fatalf("the world is\n%s, want\n%s", w, k)
	}
	return w
}

// end asks what can be asked but once: how often each node is held, and which numbers come next.
func (x twins) end() {
	x.t.Helper()
	x.alike()
	var ends [2][]int
	for i, w := range []dirop.World{x.w, x.k} {
		for _, n := range w.T.Live() {
			held := 0
			for w.T.Loose(n) == api.OK {
				held++
			}
			ends[i] = append(ends[i], held)
		}
		node, why := w.T.Make(1, "the next", api.Stat{Kind: api.File}, "")
		m, whyNot := w.M.Bind(at(0, 1000), 1)
		ends[i] = append(ends[i], node, int(why), m, int(whyNot))
	}
	if !reflect.DeepEqual(ends[0], ends[1]) {
		x.t.Fatalf("holds and what is next: %v, want %v", ends[0], ends[1])
	}
	x.alike()
}

// chooser makes calls.
type chooser struct {
	r     *rand.Rand
	names []string
}

func pick[T any](r *rand.Rand, of ...T) T { return of[r.Intn(len(of))] }

// way answers a path by names that are there, with seldom one more.
func (c chooser) way(w dirop.World) string {
	var b strings.Builder
	p := w.M.Down(top)
	for range 1 + c.r.Intn(3) {
		names := w.T.Names(p.Node)
		if len(names) == 0 {
			break
		}
		s := pick(c.r, names...)
		n, _ := w.T.Find(p.Node, s)
		p = w.M.Down(at(p.Mount, n))
		b.WriteString("/" + s)
	}
	if b.Len() == 0 || c.r.Intn(4) == 0 {
		b.WriteString("/" + pick(c.r, c.names...))
	}
	return b.String() + pick(c.r, "", "", "", "", "/")
}

// path answers a text of some parts, which seldom is none.
func (c chooser) path(w dirop.World) string {
	if c.r.Intn(2) == 0 {
		return c.way(w)
	}
	var b strings.Builder
	if c.r.Intn(3) > 0 {
		b.WriteString("/")
	}
	for i := range 1 + c.r.Intn(3) {
		if i > 0 {
			b.WriteString(pick(c.r, "/", "/", "/", "//"))
		}
		switch c.r.Intn(16) {
		case 0:
			b.WriteString("..")
		case 1:
			b.WriteString(".")
		default:
			b.WriteString(pick(c.r, c.names...))
		}
	}
	if c.r.Intn(6) == 0 {
		b.WriteString("/")
	}
	switch c.r.Intn(150) {
	case 0:
		b.WriteString("\x00")
	case 1:
		b.WriteString(strings.Repeat("x", api.MaxName))
	case 2:
		b.WriteString(strings.Repeat("/", api.MaxPath-b.Len()+c.r.Intn(2)))
	case 3:
		return ""
	}
	return b.String()
}

func (c chooser) mode() int {
	switch c.r.Intn(8) {
	case 0:
		return c.r.Intn(0o20000) - 0o4000
	case 1:
		return c.r.Intn(0o1000)
	case 2:
		return 0o1777
	case 3:
		return 0o755
	}
	return 0o777
}

// call answers one of any kind, that mostly makes and moves things.
func (c chooser) call(w dirop.World) api.Call {
	op := pick(c.r, api.Mkdir, api.Mkdir, api.Mkdir, api.Link2, api.Rename, api.Bind, 1+c.r.Intn(api.Unbind), 1+c.r.Intn(api.Unbind), 1+c.r.Intn(api.Unbind), 1+c.r.Intn(api.Unbind))
	return api.Call{
		Op: op, Path: c.path(w), To: c.path(w), Flags: pick(c.r, 0, api.NoFollow, c.r.Intn(256)), Mode: c.mode(),
		N: pick(c.r, c.r.Intn(4), c.r.Intn(5)-3, c.r.Intn(40), api.MaxSize+c.r.Intn(3)-1), M: c.r.Intn(6) - 2,
	}
}

// place answers where somebody stands.
func (c chooser) place(w dirop.World) api.Place {
	if c.r.Intn(2) == 0 {
		return top
	}
	if c.r.Intn(60) == 0 {
		return at(c.r.Intn(api.MaxMounts+2), c.r.Intn(30))
	}
	return at(pick(c.r, w.M.List()...), pick(c.r, w.T.Live()...))
}

// others do what no call here does: they make and write Files, hold Dirs, lay mounts over what is no Dir.
func (c chooser) others(x twins) {
	switch live := x.w.T.Live(); c.r.Intn(4) {
	case 0:
		dir, s, st := pick(c.r, live...), pick(c.r, c.names...), api.Stat{Kind: api.File, Mode: c.mode(), Uid: c.r.Intn(3), Gid: c.r.Intn(3)}
		x.both(func(w dirop.World) { w.T.Make(dir, s, st, "") })
	case 1:
		n, at := pick(c.r, live...), c.r.Intn(50)
		x.both(func(w dirop.World) { w.T.Write(n, at, []byte("some bytes")) })
	case 2:
		n, up := pick(c.r, live...), c.r.Intn(3) > 0
		x.both(func(w dirop.World) {
			if up {
				w.T.Hold(n)
			} else {
				w.T.Loose(n)
			}
		})
	case 3:
		if c.r.Intn(4) == 0 {
			p, n := at(pick(c.r, x.w.M.List()...), pick(c.r, live...)), pick(c.r, live...)
			x.both(func(w dirop.World) { w.M.Bind(p, n) })
		}
	}
}

// ends are those of each call that must come now and then in TestRows.
var ends = map[int][]api.Errno{
	api.Mkdir:    {0, api.ErrArg, api.NoEnt, api.NotDir, api.NoAccess, api.Exists, api.NoSpace, api.Loop, api.Invalid, api.NameLong},
	api.Rmdir:    {0, api.NoEnt, api.Invalid, api.NotDir, api.MountBusy, api.NoAccess, api.NoPerm, api.NotEmpty},
	api.Unlink:   {0, api.NoEnt, api.Invalid, api.IsDir, api.MountBusy, api.NoAccess, api.NoPerm},
	api.Link:     {0, api.NoEnt, api.NoPerm, api.Exists, api.CrossDev, api.NoAccess},
	api.Link2:    {0, api.NoEnt, api.NameLong, api.Invalid, api.Exists, api.NoAccess, api.NoSpace},
	api.Readlink: {0, api.NoEnt, api.NotSymlink},
	api.Rename:   {0, api.NoEnt, api.MountBusy, api.NotDir, api.CrossDev, api.NoAccess, api.NoPerm, api.Invalid, api.IsDir, api.NotEmpty},
	api.Info:     {0, api.NoEnt, api.Loop},
	api.Chmod:    {0, api.NoEnt, api.NoPerm},
	api.Chown:    {0, api.NoEnt, api.Invalid, api.NoPerm},
	api.Truncate: {0, api.NoEnt, api.IsDir, api.Invalid, api.NoAccess, api.TooBig},
	api.List:     {0, api.NoEnt, api.NotDir, api.NoAccess},
	api.Chdir:    {0, api.NoEnt, api.NotDir, api.NoAccess},
	api.Bind:     {0, api.NoPerm, api.NoEnt, api.NotDir, api.NoSpace},
	api.Unbind:   {0, api.NoPerm, api.NoEnt, api.Invalid, api.MountBusy},
}

// P13.1: many rows of calls, by several, in which every end of every call comes now and then.
func TestRows(t *testing.T) {
	c := chooser{r: rand.New(rand.NewSource(13)), names: []string{"a", "b", "c", "d"}}
	seen := map[int]map[api.Errno]int{}
	for op := range ops {
		seen[op] = map[api.Errno]int{}
	}
	for range 600 {
		x := newTwins(t, 6+c.r.Intn(20), c.r.Intn(5))
		mode := c.mode() | 0o111
		x.both(func(w dirop.World) { w.T.SetMode(1, mode) })
		for range pick(c.r, 0, 0, 0, 0, 3, api.MaxMounts-2) {
			x.do(dirop.Who{Cwd: top}, call(api.Bind, "/", "/"))
		}
		was := x.alike()
		for range 100 {
			if c.r.Intn(4) == 0 {
				c.others(x)
				was = x.alike()
			}
			k := c.call(x.w)
			who := dirop.Who{Cwd: c.place(x.w), Cred: api.Cred{Uid: c.r.Intn(3), Gid: c.r.Intn(3)}}
			if k.Op == api.Bind || k.Op == api.Unbind || k.Op == api.Chown {
				who.Cred.Uid *= c.r.Intn(2)
			}
			a := x.do(who, k)
			is := x.alike()
			if a.r.Why != api.OK && is != was {
				t.Fatalf("R3: %s turned\n%s into\n%s", told(k), was, is)
			}
			was = is
			if dirop.Is(k.Op) {
				seen[k.Op][a.r.Why]++
			}
		}
		x.end()
	}
	for op, whys := range ends {
		for _, why := range whys {
			if seen[op][why] < 5 {
				t.Errorf("%s ended with %d %d times of %v", ops[op], int(why), seen[op][why], seen[op])
			}
		}
	}
}

// P13.1: all pairs of names of a small world for the calls that ask for two, and all its names for the others, by the root and by another one, each in a world of its own.
func TestAllPairs(t *testing.T) {
	const words = "d/a:777 f/a/f:666:1:1 d/a/d:777:1:1 f/a/d/x s/a/s=d d/p:777 d/b:1777:2:2 f/b/f:644:3:3 h/b/g=/a/f d/b/e:755:3:3 d/b/own:700:1:1 d/c:755 f/c/f d/c/q f/o m/p=/a m/c/q=/b"
	paths := []string{"/", "/.", "/no", "/no/", "/a", "/a/", "/a/.", "/a/f", "/a/d", "/a/s", "/a/s/", "/a/d/x", "/a/d/new", "/a/new", "/p", "/p/f", "/p/d", "/p/new", "/p/new/", "/b/f", "/b/g", "/b/e", "/b/own", "/b/new", "/c/f", "/c/q", "/c/q/f", "/c/new", "/o", "/o/", "/o/x"}
	who := []api.Cred{root, {Uid: 1, Gid: 1}, {Uid: 2, Gid: 9}}
	if testing.Short() {
		who = who[:2]
	}
	for op := range ops {
		tos := []string{""}
		if op == api.Link || op == api.Link2 || op == api.Rename || op == api.Bind {
			tos = paths
		}
		for _, path := range paths {
			for _, to := range tos {
				for i, cred := range who {
					w, k := made(t, words), made(t, words)
					x := twins{t, w.World, k.World}
					x.do(dirop.Who{Cwd: top, Cred: cred}, api.Call{Op: op, Path: path, To: to, Flags: i % 2 * api.NoFollow, Mode: 0o755, N: i, M: i})
					x.alike()
				}
			}
		}
	}
}

// R1: whatever is handed in, the calls end and do not panic.
func TestWhatever(t *testing.T) {
	c := chooser{r: rand.New(rand.NewSource(1300)), names: []string{"a", "b"}}
	numbers := append([]int{0, 1, 2, 3, 8, 9}, odd...)
	n := func() int { return pick(c.r, numbers...) }
	for range 150 {
		x := newTwins(t, 10, 3)
		for range 40 {
			c.others(x)
			p, node := at(n(), n()), n()
			if c.r.Intn(4) == 0 {
				x.both(func(w dirop.World) { w.M.Bind(p, node) })
			}
			k := c.call(x.w)
			k.Op, k.Flags, k.Mode, k.N, k.M, k.Fd = pick(c.r, k.Op, n()), n(), n(), n(), n(), n()
			k.Data = []byte(fmt.Sprint(k.N))
			p = at(n(), n())
			x.w.Root, x.k.Root = p, p
			if c.r.Intn(4) > 0 {
				x.w.Root, x.k.Root = top, top
			}
			x.do(dirop.Who{Cwd: at(pick(c.r, n(), 0), n()), Cred: api.Cred{Uid: n(), Gid: pick(c.r, math.MinInt, -1, 0, 1)}}, k)
			x.alike()
		}
		x.end()
	}
}
