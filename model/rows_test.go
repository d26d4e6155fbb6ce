package model_test

import (
	"fmt"
	"maps"
	"math"
	"math/rand"
	"slices"
	"strings"
	"testing"

	"warren/api"
	"warren/cred"
	"warren/dirop"
	"warren/file"
	"warren/model"
	"warren/mount"
	"warren/tree"
	"warren/walk"
)

// owner is a process with a descriptor of it.
type owner struct{ proc, fd int }

// telling is a file system by the chapter's words, on a tree and mounts of its own. Descriptors, and which blocks there are, it keeps in plain maps.
type telling struct {
	c             api.Config
	who           []dirop.Who
	w             dirop.World
	files         map[owner]file.File
	blocks        map[int]map[int]int
	nodes, mounts int // that were ever made, mount 0 apart
}

var top = api.Place{Mount: 0, Node: 1}

func newTelling(c api.Config, people []api.Cred) *telling {
	x, _ := tree.New(c.Nodes, c.Blocks)
	k := &telling{c: c, w: dirop.World{T: x, M: mount.New(1), Root: top}, files: map[owner]file.File{}, blocks: map[int]map[int]int{}, nodes: 1}
	for _, p := range people {
		k.who = append(k.who, dirop.Who{Cwd: top, Cred: p})
		x.Hold(1)
	}
	return k
}

func no(why api.Errno) api.Result { return api.Result{Why: why} }

// do does the call, and lets go of what was kept of nodes that are gone.
func (k *telling) do(proc int, c api.Call) api.Result {
	if proc < 0 || proc >= len(k.who) || c.Op < api.Mkdir || c.Op > api.Unbind {
		return no(api.ErrArg)
	}
	r := k.told(proc, c)
	for n := range k.blocks {
		if _, live := k.w.T.Stat(n); !live {
			delete(k.blocks, n)
		}
	}
	return r
}

func (k *telling) told(proc int, c api.Call) api.Result {
	switch c.Op {
	case api.Open:
		return k.open(proc, c)
	case api.Close, api.Read, api.Write, api.Seek:
		f, there := k.files[owner{proc, c.Fd}]
		if !there {
			return no(api.BadFd)
		}
		return k.use(owner{proc, c.Fd}, f, c)
	}
	who := k.who[proc]
	f, why := walk.Walk(k.w.T, k.w.M, top, who.Cwd, who.Cred, c.Path, true)
	if c.Op == api.Unbind && who.Cred.Uid == 0 && why == api.OK && f.Has && f.At.Mount != 0 && k.isTop(f.At) && k.used(f.At.Mount) {
		return no(api.MountBusy)
	}
	r, place := dirop.Do(k.w, who, c)
	if r.Why != api.OK {
		return r
	}
	switch c.Op {
	case api.Mkdir, api.Link2:
		k.nodes++
	case api.Bind:
		k.mounts++
	case api.Truncate:
		k.cut(f.At.Node, c.N)
	case api.Chdir:
		k.w.T.Hold(place.Node)
		k.w.T.Loose(who.Cwd.Node)
		k.who[proc].Cwd = place
	}
	return r
}

func (k *telling) isTop(p api.Place) bool {
	n, _ := k.w.M.Root(p.Mount)
	return n == p.Node
}

func (k *telling) used(mount int) bool {
	for _, p := range k.who {
		if p.Cwd.Mount == mount {
			return true
		}
	}
	for _, f := range k.files {
		if f.At.Mount == mount {
			return true
		}
	}
	return false
}

// cut lets the blocks that lie wholly behind the size be gone.
func (k *telling) cut(n, size int) {
	for b := range k.blocks[n] {
		if b*16 >= size {
			delete(k.blocks[n], b)
		}
	}
}

// flagged tells whether the flags may be.
func flagged(flags int) bool {
	if flags < 1 || flags > 255 || flags%4 == 0 {
		return false
	}
	return !(flags&16 != 0 && flags&2 == 0) && !(flags&128 != 0 && flags&4 != 0)
}

func (k *telling) room(proc int) api.Errno {
	own := 0
	for o := range k.files {
		if o.proc == proc {
			own++
		}
	}
	if own == 8 {
		return api.TooMany
	}
	if len(k.files) == k.c.Files {
		return api.TableFull
	}
	return api.OK
}

func (k *telling) open(proc int, c api.Call) api.Result {
	if !flagged(c.Flags) {
		return no(api.Invalid)
	}
	if why := k.room(proc); why != api.OK {
		return no(why)
	}
	who, flags := k.who[proc], c.Flags
	f, why := walk.Walk(k.w.T, k.w.M, top, who.Cwd, who.Cred, c.Path, flags&64 == 0 && flags&12 != 12)
	if why != api.OK {
		return no(why)
	}
	if f.Has {
		why = k.standing(who.Cred, f.At.Node, flags)
	} else {
		f.At, why = k.fresh(who.Cred, f, c)
	}
	if why != api.OK {
		return no(why)
	}
	if flags&16 != 0 {
		k.w.T.Cut(f.At.Node, 0)
		k.cut(f.At.Node, 0)
	}
	k.w.T.Hold(f.At.Node)
	for fd := 0; ; fd++ {
		if _, there := k.files[owner{proc, fd}]; !there {
			k.files[owner{proc, fd}] = file.File{At: f.At, Flags: flags}
			return api.Result{N: fd}
		}
	}
}

func (k *telling) fresh(who api.Cred, f walk.Found, c api.Call) (api.Place, api.Errno) {
	dir, _ := k.w.T.Stat(f.Dir.Node)
	if c.Flags&4 == 0 {
		return api.Place{}, api.NoEnt
	}
	if f.Slash {
		return api.Place{}, api.IsDir
	}
	if !cred.May(who, dir, 2) {
		return api.Place{}, api.NoAccess
	}
	n, why := k.w.T.Make(dir.Node, f.Last, api.Stat{Kind: api.File, Mode: c.Mode & 511, Uid: who.Uid, Gid: who.Gid}, "")
	if why == api.OK {
		k.nodes++
	}
	return api.Place{Mount: f.Dir.Mount, Node: n}, why
}

func (k *telling) standing(who api.Cred, n, flags int) api.Errno {
	st, _ := k.w.T.Stat(n)
	if flags&4 != 0 && flags&8 != 0 {
		return api.Exists
	}
	if st.Kind == api.Symlink {
		return api.Loop
	}
	if flags&128 != 0 && st.Kind != api.Dir {
		return api.NotDir
	}
	if st.Kind == api.Dir && flags&6 != 0 {
		return api.IsDir
	}
	if flags&1 != 0 && !cred.May(who, st, 4) || flags&2 != 0 && !cred.May(who, st, 2) {
		return api.NoAccess
	}
	return api.OK
}

func (k *telling) use(o owner, f file.File, c api.Call) api.Result {
	st, _ := k.w.T.Stat(f.At.Node)
	switch c.Op {
	case api.Close:
		delete(k.files, o)
		return no(k.w.T.Loose(st.Node))
	case api.Read:
		if f.Flags&1 == 0 {
			return no(api.BadFd)
		}
		if st.Kind == api.Dir {
			return no(api.IsDir)
		}
		if c.N < 0 {
			return no(api.Invalid)
		}
		data, why := k.w.T.Read(st.Node, f.Pos, c.N)
		f.Pos += len(data)
		k.files[o] = f
		return api.Result{Why: why, Data: data}
	case api.Write:
		if f.Flags&2 == 0 {
			return no(api.BadFd)
		}
		return k.write(o, f, st, c.Data)
	}
	if st.Kind == api.Dir {
		return no(api.IsDir)
	}
	if c.M < 0 || c.M > 2 || c.N < -1<<31 || c.N > 1<<31 {
		return no(api.Invalid)
	}
	f.Pos = []int{0, f.Pos, st.Size}[c.M] + c.N
	if f.Pos < 0 || f.Pos > 1<<31 {
		return no(api.Invalid)
	}
	k.files[o] = f
	return api.Result{N: f.Pos}
}

func (k *telling) write(o owner, f file.File, st api.Stat, data []byte) api.Result {
	if f.Flags&32 != 0 {
		f.Pos = st.Size
	}
	if why := k.w.T.Write(st.Node, f.Pos, data); why != api.OK {
		return no(why)
	}
	for range data {
		if k.blocks[st.Node] == nil {
			k.blocks[st.Node] = map[int]int{}
		}
		k.blocks[st.Node][f.Pos/16]++
		f.Pos++
	}
	k.files[o] = f
	return api.Result{N: len(data)}
}

// reached answers what is live by what has it: names, processes, descriptors, mounts.
func (k *telling) reached() []int {
	has := map[int]int{}
	var reach func(n int)
	reach = func(n int) {
		if has[n]++; has[n] > 1 {
			return
		}
		for _, s := range k.w.T.Names(n) {
			in, _ := k.w.T.Find(n, s)
			reach(in)
		}
	}
	reach(1)
	for _, p := range k.who {
		reach(p.Cwd.Node)
	}
	for _, f := range k.files {
		reach(f.At.Node)
	}
	for _, m := range k.w.M.List()[1:] {
		n, _ := k.w.M.Root(m)
		at, _ := k.w.M.Up(api.Place{Mount: m, Node: n})
		reach(n)
		reach(at.Node)
	}
	return slices.Sorted(maps.Keys(has))
}

func (k *telling) blocksUsed() int {
	n := 0
	for _, has := range k.blocks {
		n += len(has)
	}
	return n
}

// things are what P15.4 names, in order.
var things = []string{"configuration", "creds", "live", "Stat", "Find", "Names", "Up", "Text", "bytes", "blocks", "List", "Root", "Down", "Cwd", "descriptors", "next node", "next mount"}

// tells tells each of the things.
func (k *telling) tells() map[string]string {
	text := map[string]string{
		"configuration": fmt.Sprint(k.c), "live": fmt.Sprint(k.w.T.Live()), "List": fmt.Sprint(k.w.M.List()), "next node": fmt.Sprint(k.nodes), "next mount": fmt.Sprint(k.mounts),
	}
	add := func(thing string, what ...any) { text[thing] += fmt.Sprintln(what...) }
	for proc, p := range k.who {
		add("creds", p.Cred)
		add("Cwd", p.Cwd)
		for fd := range api.MaxFiles {
			f, there := k.files[owner{proc, fd}]
			add("descriptors", f, there)
		}
	}
	for _, n := range k.w.T.Live() {
		st, _ := k.w.T.Stat(n)
		add("Stat", st)
		add("Names", fmt.Sprintf("%q", k.w.T.Names(n)))
		for _, s := range k.w.T.Names(n) {
			in, _ := k.w.T.Find(n, s)
			add("Find", n, s, in)
		}
		add("Up", k.w.T.Up(n))
		add("Text", k.w.T.Text(n))
		data, _ := k.w.T.Read(n, 0, api.MaxSize)
		add("bytes", n, data)
		add("blocks", n, slices.Sorted(maps.Keys(k.blocks[n])))
		for _, m := range k.w.M.List() {
			if st.Kind == api.Dir {
				add("Down", m, n, k.w.M.Down(api.Place{Mount: m, Node: n}))
			}
		}
	}
	for _, m := range k.w.M.List() {
		n, _ := k.w.M.Root(m)
		add("Root", m, n)
	}
	return text
}

// all answers all of the things as one text.
func (k *telling) all() string {
	var b strings.Builder
	tells := k.tells()
	for _, thing := range things {
		fmt.Fprintf(&b, "%s: %s\n", thing, tells[thing])
	}
	return b.String()
}

// twins are a Model and what it is held against, in which the same was done.
type twins struct {
	t *testing.T
	m *model.Model
	k *telling
}

func newTwins(t *testing.T, c api.Config, who []api.Cred) *twins {
	t.Helper()
	return &twins{t, sized(t, c, who).m, newTelling(c, who)}
}

// do does the call in both, and holds what is answered against each other, and what can be asked then.
func (x *twins) do(proc int, c api.Call) api.Result {
	x.t.Helper()
	want := x.k.do(proc, c)
	got := x.m.Do(proc, c)
	if !same(got, want) {
		x.t.Fatalf("%s: %+v, want %+v, by which it is\n%s", told(proc, c), got, want, x.k.all())
	}
	live := fmt.Sprint(x.m.Live())
	if live != fmt.Sprint(x.k.w.T.Live()) || live != fmt.Sprint(x.k.reached()) || x.m.Blocks() != x.k.blocksUsed() || x.m.Open() != len(x.k.files) {
		x.t.Fatalf("behind %s: %s live, %d blocks, %d open in\n%s", told(proc, c), live, x.m.Blocks(), x.m.Open(), x.k.all())
	}
	return want
}

// chooser makes calls.
type chooser struct {
	r     *rand.Rand
	names []string
}

func pick[T any](r *rand.Rand, of ...T) T { return of[r.Intn(len(of))] }

// path answers a text of some parts, which seldom is none.
func (c chooser) path() string {
	var b strings.Builder
	if c.r.Intn(3) > 0 {
		b.WriteString("/")
	}
	for i := range 1 + c.r.Intn(3) {
		if i > 0 {
			b.WriteString("/")
		}
		switch c.r.Intn(14) {
		case 0:
			b.WriteString("..")
		case 1:
			b.WriteString(".")
		default:
			b.WriteString(pick(c.r, c.names...))
		}
	}
	if c.r.Intn(8) == 0 {
		b.WriteString("/")
	}
	switch c.r.Intn(100) {
	case 0:
		b.WriteString("\x00")
	case 1:
		b.WriteString(strings.Repeat("x", api.MaxName))
	case 2:
		return ""
	}
	return b.String()
}

// short answers a path of a name or two.
func (c chooser) short() string {
	return pick(c.r, "/", "") + pick(c.r, c.names...) + pick(c.r, "", "", "/"+pick(c.r, c.names...))
}

// way answers a path by names that are there, as long as there are some, with seldom one more.
func (c chooser) way(w dirop.World) string {
	var b strings.Builder
	p := w.M.Down(top)
	for range 1 + c.r.Intn(3) {
		names := w.T.Names(p.Node)
		if len(names) == 0 {
			break
		}
		s := pick(c.r, names...)
		n, _ := w.T.Find(p.Node, s)
		p = w.M.Down(api.Place{Mount: p.Mount, Node: n})
		b.WriteString("/" + s)
	}
	if b.Len() == 0 || c.r.Intn(4) == 0 {
		b.WriteString("/" + pick(c.r, c.names...))
	}
	return b.String()
}

func (c chooser) mode() int {
	switch c.r.Intn(10) {
	case 0:
		return c.r.Intn(0o20000) - 0o4000
	case 1:
		return c.r.Intn(0o1000)
	}
	return 0o777
}

func (c chooser) flags() int {
	switch c.r.Intn(6) {
	case 0:
		return c.r.Intn(300) - 20
	case 1:
		return pick(c.r, rd, rd|od, rd|nf)
	case 2:
		return pick(c.r, wr|ct, both|ct|mk, both|ap)
	}
	return pick(c.r, rd, wr, both, ap|wr) | mk*c.r.Intn(2)
}

// call answers one of any kind, that mostly makes, opens and writes things.
func (c chooser) call(w dirop.World) api.Call {
	op := pick(c.r, api.Mkdir, api.Open, api.Open, api.Open, api.Write, api.Write, api.Bind, api.Chdir, 1+c.r.Intn(20), 1+c.r.Intn(20), 1+c.r.Intn(20), 1+c.r.Intn(20), 1+c.r.Intn(20), 1+c.r.Intn(20))
	k := api.Call{Op: op, Path: pick(c.r, c.short(), c.path(), c.way(w)), To: pick(c.r, c.short(), c.path(), c.way(w)), Fd: pick(c.r, 0, 0, 1, 2, c.r.Intn(9)-1), Flags: c.flags(), Mode: c.mode()}
	k.N = pick(c.r, c.r.Intn(4), c.r.Intn(40), c.r.Intn(9)-4, api.MaxSize+c.r.Intn(3)-1)
	k.M = c.r.Intn(4) - c.r.Intn(2)
	if op == api.Seek && c.r.Intn(12) == 0 {
		k.N = pick(c.r, far, far+1, -far, -far-1, math.MinInt, math.MaxInt)
	}
	k.Data = []byte(strings.Repeat(pick(c.r, "\x00", "a", "bc"), pick(c.r, 0, 1, c.r.Intn(10), c.r.Intn(40), api.MaxSize/2)))
	return k
}

// ends are those of each call of this layer that must come now and then in TestRows.
var ends = map[int][]api.Errno{
	api.Open:   {0, api.Invalid, api.TooMany, api.TableFull, api.NoEnt, api.NotDir, api.NoAccess, api.IsDir, api.NoSpace, api.Exists, api.Loop, api.NameLong},
	api.Close:  {0, api.BadFd},
	api.Read:   {0, api.BadFd, api.IsDir, api.Invalid},
	api.Write:  {0, api.BadFd, api.TooBig, api.NoSpace},
	api.Seek:   {0, api.BadFd, api.IsDir, api.Invalid},
	api.Chdir:  {0, api.NoEnt, api.NotDir, api.NoAccess},
	api.Bind:   {0, api.NoPerm, api.NoSpace},
	api.Unbind: {0, api.NoPerm, api.NoEnt, api.Invalid, api.MountBusy},
}

// kept is a copy that was made, and what it must tell for good.
type kept struct {
	m    *model.Model
	text string
}

// P15.1 to P15.5: many rows of calls, by several, held against the chapter's words. Now and then the row goes on with a copy, and what it was copied from, which must stay as it is, is held against what comes later.
func TestRows(t *testing.T) {
	c := chooser{r: rand.New(rand.NewSource(15)), names: []string{"a", "b", "c", "0", "1"}}
	seen := map[int]map[api.Errno]int{}
	for op := api.Mkdir; op <= api.Unbind; op++ {
		seen[op] = map[api.Errno]int{}
	}
	likes := 0
	for range 300 {
		who := []api.Cred{{}, {}, {Uid: 1, Gid: 1}, {Uid: 2, Gid: 1}}[:1+c.r.Intn(4)]
		x := newTwins(t, api.Config{Nodes: 3 + c.r.Intn(20), Blocks: pick(c.r, 3, 20, 256), Files: pick(c.r, 3, 9, 64)}, who)
		x.do(root, chmod("/", pick(c.r, 0o777, 0o777, 0o755)))
		for range pick(c.r, 0, 0, 0, api.MaxMounts-4) {
			x.do(root, mkdir("/a"))
			x.do(root, bind(pick(c.r, "/", "/a"), "/a"))
		}
		var copies []kept
		for range 120 {
			k := c.call(x.k.w)
			proc := c.r.Intn(len(who))
			was := x.m.Copy()
			r := x.do(proc, k)
			seen[k.Op][r.Why]++
			if r.Why != api.OK && (!x.m.Same(was) || !was.Same(x.m)) {
				t.Fatalf("P15.3: %s, refused with %v, turned something in\n%s", told(proc, k), r.Why, x.k.all())
			}
			if c.r.Intn(8) == 0 {
				text := x.k.all()
				for _, o := range copies {
					if x.m.Same(o.m) != (text == o.text) || o.m.Same(x.m) != (text == o.text) {
						t.Fatalf("P15.4: Same is %v of\n%s and\n%s", x.m.Same(o.m), text, o.text)
					}
					if text == o.text {
						likes++
					}
				}
				copies = append(copies, kept{x.m, text})
				x.m = x.m.Copy()
			}
		}
	}
	if likes < 20 {
		t.Errorf("two were the same %d times", likes)
	}
	for op, whys := range ends {
		for _, why := range whys {
			if seen[op][why] < 5 {
				t.Errorf("call %d ended with %d %d times of %v", op, int(why), seen[op][why], seen[op])
			}
		}
	}
}

// P15.2: all flags, for each thing that a path may come to, by several, in a file system that is full, or is not.
func TestAllFlags(t *testing.T) {
	paths := []string{"/f", "/own", "/d", "/d/", "/f/", "/s", "/sd", "/sd/", "/dangling", "/slash", "/new", "/new/", "/d/new", "/shut/x", "/w/new", "/no/new", "/", ".", "new", "f"}
	start := []api.Call{
		chmod("/", 0o755), open("/f", both|mk), write(0, noughts(20)), shut(0), chmod("/f", 0o644), open("/own", both|mk), shut(0), chown("/own", 5, 5), chmod("/own", 0o200), mkdir("/d"), chmod("/d", 0o700),
		mkdir("/shut"), chmod("/shut", 0), mkdir("/w"), chmod("/w", 0o777), symlink("f", "/s"), symlink("d", "/sd"), symlink("w/new", "/dangling"), symlink("w/new/", "/slash"),
	}
	for _, nodes := range []int{api.MaxNodes, 10} {
		for proc := range 2 {
			x := newTwins(t, api.Config{Nodes: nodes, Blocks: 9, Files: 9}, people())
			for _, c := range start {
				if r := x.do(root, c); r.Why != api.OK {
					t.Fatalf("%s: %v", told(root, c), r.Why)
				}
			}
			for flags := -2; flags <= 260; flags++ {
				for _, path := range paths {
					r := x.do(proc, open(path, flags))
					if r.Why != api.OK {
						continue
					}
					x.do(proc, shut(r.N))
					for _, fresh := range []string{"/w/new", "/new", "/d/new", "/shut/x"} {
						x.do(root, unlink(fresh))
					}
				}
			}
		}
	}
}

// set are calls of which short rows are made.
func set() []api.Call {
	return []api.Call{
		mkdir("/a"), open("/a/f", both|mk), open("/f", wr|mk|ap), write(0, "abc"), seek(0, 20, 0), read(0, 2), shut(0), truncate("/f", 20),
		rename("/f", "/a/f"), unlink("/f"), rmdir("/a"), chdir("/a"), chdir("/"), bind("/a", "/"), bind("/", "/a"), unbind("/a"),
	}
}

// P15.2, P15.5: all rows of four calls of a chosen set, of which the second is another process's, and the last is made in a copy.
func TestShortRows(t *testing.T) {
	calls := set()
	conf := api.Config{Nodes: 3, Blocks: 2, Files: 2}
	who := []api.Cred{{}, {}}
	n := len(calls)
	for row := range n * n * n {
		m, k := sized(t, conf, who).m, newTelling(conf, who)
		x := &twins{t, m, k}
		for i, c := range []api.Call{calls[row/n/n], calls[row/n%n], calls[row%n]} {
			x.do(i%2, c)
		}
		if testing.Short() {
			continue
		}
		text := k.all()
		for _, c := range calls {
			y := &twins{t, m.Copy(), newTelling(conf, who)}
			for i, c := range []api.Call{calls[row/n/n], calls[row/n%n], calls[row%n]} {
				y.k.do(i%2, c)
			}
			y.do(0, c)
			if m.Same(y.m) != (text == y.k.all()) {
				t.Fatalf("P15.4: Same is %v of\n%s and\n%s", m.Same(y.m), text, y.k.all())
			}
		}
	}
}

// P15.4: each two of the file systems that rows of two calls make are Same just if all the things are.
func TestAllPairs(t *testing.T) {
	var all []kept
	calls := set()
	for _, first := range calls {
		for _, second := range calls {
			m, k := sized(t, large, people()).m, newTelling(large, people())
			for _, c := range []api.Call{open("/f", both|mk), mkdir("/a"), first, second} {
				m.Do(root, c)
				k.do(root, c)
			}
			all = append(all, kept{m, k.all()})
		}
	}
	likes := 0
	for _, a := range all {
		for _, b := range all {
			if a.m.Same(b.m) != (a.text == b.text) {
				t.Fatalf("P15.4: Same is %v of\n%s and\n%s", a.m.Same(b.m), a.text, b.text)
			}
			if a.text == b.text {
				likes++
			}
		}
	}
	if likes < 2*len(all) {
		t.Errorf("%d pairs of %d are alike", likes, len(all)*len(all))
	}
}

// R1: whatever is handed in, the calls end and do not panic.
func TestWhatever(t *testing.T) {
	c := chooser{r: rand.New(rand.NewSource(1500)), names: []string{"a", "b"}}
	numbers := append([]int{0, 1, 2, 3, 8, 9, 255, 256, far, -far, far + 1}, odd...)
	n := func() int { return pick(c.r, numbers...) }
	for range 60 {
		x := newTwins(t, api.Config{Nodes: 8, Blocks: 5, Files: 5}, people())
		for range 80 {
			k := c.call(x.k.w)
			switch c.r.Intn(4) {
			case 0:
				k.Op = n()
			case 1:
				k.Flags, k.Mode = n(), n()
			case 2:
				k.Fd = n()
			case 3:
				k.N, k.M = n(), n()
			}
			x.do(pick(c.r, root, root, ann, n()), k)
		}
		if !x.m.Same(x.m.Copy()) {
			t.Fatalf("a copy is not the same as\n%s", x.k.all())
		}
	}
}
