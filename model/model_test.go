package model_test

import (
	"fmt"
	"math"
	"reflect"
	"strings"
	"testing"

	"warren/api"
	"warren/model"
)

// Flags, by short names.
const (
	rd   = api.ForRead
	wr   = api.ForWrite
	mk   = api.Make
	nw   = api.New
	ct   = api.Cut
	ap   = api.Append
	nf   = api.NoFollow
	od   = api.OnlyDir
	both = rd | wr
)

// Processes of people: the root, two of one group, and one by himself.
const (
	root = iota
	ann
	bob
	carl
	nobody // one more: there is no such process
)

func people() []api.Cred {
	return []api.Cred{{}, {Uid: 5, Gid: 5}, {Uid: 6, Gid: 5}, {Uid: 7, Gid: 7}}
}

// odd are numbers that no test gives a process, a descriptor or a call.
var odd = []int{-1, -2, math.MinInt, 21, 99, math.MaxInt}

// large is a file system in which there is room for all that may be.
var large = api.Config{Nodes: api.MaxNodes, Blocks: api.MaxBlocks, Files: api.MaxProcs * api.MaxFiles}

// Calls.
func mkdir(p string) api.Call               { return api.Call{Op: api.Mkdir, Path: p, Mode: 0o755} }
func rmdir(p string) api.Call               { return api.Call{Op: api.Rmdir, Path: p} }
func unlink(p string) api.Call              { return api.Call{Op: api.Unlink, Path: p} }
func link(p, to string) api.Call            { return api.Call{Op: api.Link, Path: p, To: to} }
func symlink(text, to string) api.Call      { return api.Call{Op: api.Link2, Path: text, To: to} }
func rename(p, to string) api.Call          { return api.Call{Op: api.Rename, Path: p, To: to} }
func info(p string) api.Call                { return api.Call{Op: api.Info, Path: p} }
func chmod(p string, mode int) api.Call     { return api.Call{Op: api.Chmod, Path: p, Mode: mode} }
func chown(p string, uid, gid int) api.Call { return api.Call{Op: api.Chown, Path: p, N: uid, M: gid} }
func truncate(p string, n int) api.Call     { return api.Call{Op: api.Truncate, Path: p, N: n} }
func chdir(p string) api.Call               { return api.Call{Op: api.Chdir, Path: p} }
func list(p string) api.Call                { return api.Call{Op: api.List, Path: p} }
func bind(p, to string) api.Call            { return api.Call{Op: api.Bind, Path: p, To: to} }
func unbind(p string) api.Call              { return api.Call{Op: api.Unbind, Path: p} }
func open(p string, flags int) api.Call {
	return api.Call{Op: api.Open, Path: p, Flags: flags, Mode: 0o644}
}
func shut(fd int) api.Call            { return api.Call{Op: api.Close, Fd: fd} }
func read(fd, n int) api.Call         { return api.Call{Op: api.Read, Fd: fd, N: n} }
func write(fd int, s string) api.Call { return api.Call{Op: api.Write, Fd: fd, Data: []byte(s)} }
func seek(fd, n, from int) api.Call   { return api.Call{Op: api.Seek, Fd: fd, N: n, M: from} }

// noughts answers n bytes that are 0.
func noughts(n int) string { return strings.Repeat("\x00", n) }

// world is a file system of people.
type world struct {
	t *testing.T
	m *model.Model
}

func sized(t *testing.T, c api.Config, who []api.Cred) *world {
	t.Helper()
	m, why := model.New(c, who)
	if m == nil || why != api.OK {
		t.Fatalf("New(%v, %v): %v, %v", c, who, m, why)
	}
	return &world{t, m}
}

// made answers a large file system in which the root has done these calls.
func made(t *testing.T, calls ...api.Call) *world {
	t.Helper()
	w := sized(t, large, people())
	w.does(root, calls...)
	return w
}

func told(proc int, c api.Call) string {
	data, path, to := c.Data, c.Path, c.To
	c.Path, c.To, c.Data = "", "", nil
	return fmt.Sprintf("call %d of %d, %.40q, %.40q, %d bytes, %+v", c.Op, proc, path, to, len(data), c)
}

// same tells whether two results are, nil and empty lists too.
func same(a, b api.Result) bool {
	if len(a.Data)+len(b.Data) == 0 {
		a.Data, b.Data = nil, nil
	}
	if len(a.Names)+len(b.Names) == 0 {
		a.Names, b.Names = nil, nil
	}
	return reflect.DeepEqual(a, b)
}

// answers does the call, and asks what comes of it.
func (w *world) answers(proc int, c api.Call, want api.Result) {
	w.t.Helper()
	if got := w.m.Do(proc, c); !same(got, want) {
		w.t.Errorf("%s: %+v, want %+v", told(proc, c), got, want)
	}
}

// does asks that the calls be done, whatever they tell.
func (w *world) does(proc int, calls ...api.Call) {
	w.t.Helper()
	for _, c := range calls {
		if got := w.m.Do(proc, c); got.Why != api.OK {
			w.t.Fatalf("%s: %+v", told(proc, c), got)
		}
	}
}

// silent asks that the calls be done, and tell nothing.
func (w *world) silent(proc int, calls ...api.Call) {
	w.t.Helper()
	for _, c := range calls {
		w.answers(proc, c, api.Result{})
	}
}

// refuses asks for a refusal of each, beside which nothing is told, and which turned nothing.
func (w *world) refuses(proc int, why api.Errno, calls ...api.Call) {
	w.t.Helper()
	for _, c := range calls {
		w.still(told(proc, c), func() { w.answers(proc, c, api.Result{Why: why}) })
	}
}

// still does what is to turn nothing.
func (w *world) still(what string, do func()) {
	w.t.Helper()
	was, copied := w.look(), w.m.Copy()
	do()
	if is := w.look(); is != was {
		w.t.Errorf("%s turned\n%s into\n%s", what, was, is)
	}
	if !w.m.Same(copied) || !copied.Same(w.m) {
		w.t.Errorf("%s turned something that Same tells", what)
	}
}

func (w *world) opens(proc int, path string, flags, fd int) {
	w.t.Helper()
	w.answers(proc, open(path, flags), api.Result{N: fd})
}

func (w *world) reads(proc, fd, n int, want string) {
	w.t.Helper()
	w.answers(proc, read(fd, n), api.Result{Data: []byte(want)})
}

func (w *world) writes(proc, fd int, s string) {
	w.t.Helper()
	w.answers(proc, write(fd, s), api.Result{N: len(s)})
}

func (w *world) seeks(proc, fd, n, from, want int) {
	w.t.Helper()
	w.answers(proc, seek(fd, n, from), api.Result{N: want})
}

// at asks where the descriptor is gone on with.
func (w *world) at(proc, fd, want int) {
	w.t.Helper()
	w.seeks(proc, fd, 0, 1, want)
}

// stat tells what the root finds there.
func (w *world) stat(path string) api.Stat {
	w.t.Helper()
	r := w.m.Do(root, info(path))
	if r.Why != api.OK {
		w.t.Fatalf("Info(%q): %v", path, r.Why)
	}
	return r.Stat
}

// counts asks for the live nodes, and how many blocks are used and files open.
func (w *world) counts(live []int, blocks, open int) {
	w.t.Helper()
	got := fmt.Sprint(w.m.Live(), w.m.Blocks(), w.m.Open())
	if want := fmt.Sprint(live, blocks, open); got != want {
		w.t.Errorf("live, blocks, open: %s, want %s", got, want)
	}
}

// look tells what calls tell that turn nothing: what the root finds below its root, where each process stands, what it has open, and the counts. (Of descriptors no more than eight, of processes no more than there may be.)
func (w *world) look() string {
	var b strings.Builder
	fmt.Fprint(&b, w.m.Live(), w.m.Blocks(), w.m.Open())
	w.lookAt(&b, "", 0)
	for proc := range api.MaxProcs + 1 {
		fmt.Fprint(&b, "\n", proc, w.m.Do(proc, info(".")))
		for fd := range api.MaxFiles + 1 {
			r := w.m.Do(proc, seek(fd, 0, 1))
			fmt.Fprint(&b, " ", int(r.Why), r.N)
		}
	}
	return b.String()
}

// lookAt tells what lies at the path. (Where Dirs are mounted within themselves, it goes on for a while alone.)
func (w *world) lookAt(b *strings.Builder, path string, deep int) {
	c := info(path + "/")
	if path != "" {
		c = api.Call{Op: api.Info, Path: path, Flags: api.NoFollow}
	}
	st := w.m.Do(root, c).Stat
	fmt.Fprintf(b, "\n%q %v", path, st)
	switch {
	case st.Kind == api.Symlink:
		fmt.Fprintf(b, " %q", w.m.Do(root, api.Call{Op: api.Readlink, Path: path}).Data)
	case st.Kind == api.Dir && deep < 4:
		for _, s := range w.m.Do(root, list(path+"/")).Names {
			w.lookAt(b, path+"/"+s, deep+1)
		}
	}
}

// P15.1: New is refused without a process, with one too many, with numbers below 0, and where a lower layer refuses.
func TestNewRefused(t *testing.T) {
	eight := make([]api.Cred, api.MaxProcs)
	last := func(c api.Cred) []api.Cred {
		return append(make([]api.Cred, api.MaxProcs-1), c)
	}
	for _, c := range []struct {
		c   api.Config
		who []api.Cred
	}{
		{large, nil},
		{large, []api.Cred{}},
		{large, make([]api.Cred, api.MaxProcs+1)},
		{large, make([]api.Cred, 100)},
		{large, []api.Cred{{Uid: -1}}},
		{large, []api.Cred{{Gid: -1}}},
		{large, []api.Cred{{Uid: math.MinInt}}},
		{large, []api.Cred{{Uid: 1, Gid: math.MinInt}}},
		{large, last(api.Cred{Uid: -1})},
		{large, last(api.Cred{Gid: -1})},
		{api.Config{}, eight},
		{api.Config{Nodes: 0, Blocks: 1, Files: 1}, eight},
		{api.Config{Nodes: -1, Blocks: 1, Files: 1}, eight},
		{api.Config{Nodes: api.MaxNodes + 1, Blocks: 1, Files: 1}, eight},
		{api.Config{Nodes: math.MaxInt, Blocks: 1, Files: 1}, eight},
		{api.Config{Nodes: 1, Blocks: -1, Files: 1}, eight},
		{api.Config{Nodes: 1, Blocks: api.MaxBlocks + 1, Files: 1}, eight},
		{api.Config{Nodes: 1, Blocks: math.MinInt, Files: 1}, eight},
		{api.Config{Nodes: 1, Blocks: 1, Files: 0}, eight},
		{api.Config{Nodes: 1, Blocks: 1, Files: -1}, eight},
		{api.Config{Nodes: 1, Blocks: 1, Files: api.MaxProcs*api.MaxFiles + 1}, eight},
		{api.Config{Nodes: 1, Blocks: 1, Files: math.MaxInt}, eight},
		{api.Config{Nodes: 0, Blocks: 257, Files: 0}, nil},
	} {
		if m, why := model.New(c.c, c.who); m != nil || why != api.ErrArg {
			t.Errorf("New(%v, %v): %v, %v", c.c, c.who, m, why)
		}
	}
}

// P15.1: at the edges a file system is made: a root alone, at which each process stands, without descriptors.
func TestNew(t *testing.T) {
	for _, c := range []api.Config{large, {Nodes: 1, Blocks: 0, Files: 1}, {Nodes: 1, Blocks: api.MaxBlocks, Files: 1}, {Nodes: api.MaxNodes, Blocks: 0, Files: api.MaxProcs * api.MaxFiles}} {
		for n := 1; n <= api.MaxProcs; n++ {
			who := make([]api.Cred, n)
			who[n-1] = api.Cred{Uid: math.MaxInt, Gid: math.MaxInt}
			w := sized(t, c, who)
			w.counts([]int{1}, 0, 0)
			for proc := range n {
				for _, path := range []string{"/", ".", "..", "/.."} {
					w.answers(proc, info(path), api.Result{Stat: api.Stat{Node: 1, Kind: api.Dir, Mode: 0o755, Links: 2}})
				}
				w.answers(proc, list("."), api.Result{})
				for fd := -1; fd <= api.MaxFiles; fd++ {
					w.refuses(proc, api.BadFd, shut(fd))
				}
			}
			w.refuses(n, api.ErrArg, info("/"))
		}
	}
}

// P15.1: the file system is as large as the configuration says.
func TestSizes(t *testing.T) {
	w := sized(t, api.Config{Nodes: 3, Blocks: 2, Files: 2}, people())
	w.does(root, mkdir("/a"))
	w.opens(root, "/f", both|mk, 0)
	w.refuses(root, api.NoSpace, mkdir("/b"), open("/g", rd|mk), symlink("x", "/s"))
	w.writes(root, 0, noughts(32))
	w.refuses(root, api.NoSpace, write(0, "x"))
	w.opens(ann, "/f", rd, 0)
	w.refuses(ann, api.TableFull, open("/f", rd))
	w.refuses(root, api.TableFull, open("/f", rd))
	w.counts([]int{1, 2, 3}, 2, 2)
}

// R2: the creds that are handed in are neither kept nor changed, nor is their spare room.
func TestPeopleAreNotKept(t *testing.T) {
	who := append(make([]api.Cred, 0, 4), api.Cred{}, api.Cred{Uid: 5, Gid: 6})
	behind := who[:4]
	behind[2], behind[3] = api.Cred{Uid: -7, Gid: -7}, api.Cred{Uid: 8, Gid: 8}
	w := sized(t, large, who)
	who[0] = api.Cred{Uid: 9, Gid: 9}
	w.silent(root, mkdir("/a"), chown("/a", 1, 1))
	w.refuses(1, api.NoAccess, mkdir("/b"))
	w.refuses(2, api.ErrArg, info("/"))
	if fmt.Sprint(behind) != "[{9 9} {5 6} {-7 -7} {8 8}]" {
		t.Errorf("the creds are %v", behind)
	}
}

// each answers a call of each kind that finds something to do in the world of busyWords.
func each() []api.Call {
	return []api.Call{
		mkdir("/new"), rmdir("/e"), open("/f", rd), shut(0), read(0, 2), write(0, "xy"), seek(0, 2, 0), truncate("/f", 5), link("/f", "/g"), unlink("/f"), symlink("f", "/t"),
		{Op: api.Readlink, Path: "/s"}, rename("/f", "/g"), info("/f"), chmod("/f", 1), chown("/f", 1, 1), chdir("/e"), list("/"), bind("/e", "/m"), unbind("/n"),
	}
}

func busyWords() []api.Call {
	return []api.Call{open("/f", both|mk), write(0, "abc"), seek(0, 0, 0), mkdir("/e"), mkdir("/m"), mkdir("/n"), symlink("f", "/s"), bind("/e", "/n")}
}

// P15.2: ErrArg comes ahead of all: of a process that is none, and of an Op that is none.
func TestArguments(t *testing.T) {
	calls := each()
	for i, c := range calls {
		if c.Op != i+1 {
			t.Fatalf("call %d has Op %d", i, c.Op)
		}
		w := made(t, busyWords()...)
		for _, proc := range append([]int{nobody, nobody + 1, api.MaxProcs}, odd...) {
			w.refuses(proc, api.ErrArg, c)
		}
		// The first process can do it, and the last one is there: what was refused above was so for that alone.
		w.does(root, c)
		w.refuses(carl, api.BadFd, shut(0))
		for _, op := range append([]int{0, api.Unbind + 1, -api.Mkdir, 256 + api.Mkdir}, odd...) {
			c.Op = op
			for proc := range nobody {
				w.refuses(proc, api.ErrArg, c, api.Call{Op: op}, api.Call{Op: op, Path: "/", To: "/new", Flags: 256, N: -1, M: 9, Fd: -1})
			}
		}
	}
	w := made(t, mkdir("/a"))
	for _, proc := range append([]int{nobody}, odd...) {
		w.refuses(proc, api.ErrArg, open("/f", 0), open("", rd), read(-1, -1), seek(9, 0, 9), mkdir(""), unbind("/"), api.Call{Op: -1})
	}
	w.answers(carl, info("/a"), api.Result{Stat: api.Stat{Node: 2, Kind: api.Dir, Mode: 0o755, Links: 2}})
}

// P15.2: what dirop does is done by it, by who calls, from where he stands: each call once, and what it tells.
func TestNames(t *testing.T) {
	w := made(t)
	w.silent(root, mkdir("/d"), chmod("/d", 0o1777), chdir("/d"))
	w.silent(ann, chdir("d"), mkdir("a"))
	w.answers(ann, info("a"), api.Result{Stat: api.Stat{Node: 3, Kind: api.Dir, Mode: 0o755, Uid: 5, Gid: 5, Links: 2}})
	w.silent(ann, symlink("a", "s"))
	w.answers(bob, api.Call{Op: api.Readlink, Path: "/d/s"}, api.Result{Data: []byte("a")})
	w.answers(bob, list("d"), api.Result{Names: []string{"a", "s"}})
	w.opens(ann, "f", wr|mk, 0)
	w.silent(ann, link("f", "g"), truncate("g", 9), chmod("f", 0o700))
	w.answers(ann, info("/d/f"), api.Result{Stat: api.Stat{Node: 5, Kind: api.File, Mode: 0o700, Uid: 5, Gid: 5, Links: 2, Size: 9}})
	w.refuses(bob, api.NoPerm, unlink("/d/g"), rename("/d/g", "/d/h"), rmdir("/d/a"), chmod("/d/g", 0), chown("/d/g", 6, 5), bind("/", "/d"), unbind("/"))
	w.refuses(bob, api.NoAccess, mkdir("/no"), truncate("/d/f", 0), mkdir("/d/a/in"))
	w.refuses(bob, api.NoEnt, info("f"), list("a"), chdir("a"))
	w.silent(root, chown("f", 6, -1), chmod("f", 0o470))
	w.refuses(bob, api.NoAccess, truncate("/d/f", 1))
	w.refuses(ann, api.NoPerm, unlink("g"))
	w.silent(bob, unlink("/d/g"))
	w.silent(ann, truncate("f", 1), rename("a", "b"), rmdir("b"))
	w.answers(root, list("."), api.Result{Names: []string{"f", "s"}})
	w.answers(root, info("f"), api.Result{Stat: api.Stat{Node: 5, Kind: api.File, Mode: 0o470, Uid: 6, Gid: 5, Links: 1, Size: 1}})
	w.silent(root, mkdir("/m"), bind("/d", "/m"))
	w.answers(carl, list("/m"), api.Result{Names: []string{"f", "s"}})
	w.silent(root, unbind("/m"))
	w.answers(carl, list("/m"), api.Result{})
}

// The chapter's runs.
func TestRuns(t *testing.T) {
	w := made(t)
	w.opens(root, "/f", wr|mk, 0)
	w.writes(root, 0, "abc")
	w.silent(root, shut(0))
	w.opens(root, "/f", rd, 0)
	w.reads(root, 0, 9, "abc")

	w = made(t, open("/f", both|mk), write(0, "its bytes"), seek(0, 0, 0))
	w.silent(root, unlink("/f"))
	w.reads(root, 0, 99, "its bytes")
}

// The chapter's examples.
func TestExamples(t *testing.T) {
	w := made(t, open("/f", both|mk), write(0, "abc"), unlink("/f"))
	w.writes(root, 0, "def")
	w.seeks(root, 0, 0, 0, 0)
	w.reads(root, 0, 9, "abcdef")

	w = made(t, open("/f", both|mk), write(0, "abc"))
	w.seeks(root, 0, 40, 0, 40)
	w.writes(root, 0, "z")
	w.seeks(root, 0, 0, 0, 0)
	w.reads(root, 0, 99, "abc"+noughts(37)+"z")
	w.counts([]int{1, 2}, 2, 1)

	w = made(t, mkdir("/d"))
	w.silent(root, chdir("/d"), rmdir("/d"))
	w.refuses(root, api.NoEnt, mkdir("x"))
}

// P15.3: Live, Blocks and Open tell what there is, and are new memory.
func TestCounts(t *testing.T) {
	w := made(t)
	w.does(root, mkdir("/a"), open("/f", both|mk), open("/g", both|mk), write(0, noughts(17)), write(1, "x"))
	w.counts([]int{1, 2, 3, 4}, 3, 2)
	w.does(root, truncate("/f", 16))
	w.counts([]int{1, 2, 3, 4}, 2, 2)
	w.does(root, truncate("/f", 100))
	w.counts([]int{1, 2, 3, 4}, 2, 2)
	w.does(root, shut(0), unlink("/f"), rmdir("/a"))
	w.counts([]int{1, 4}, 1, 1)
	w.does(root, mkdir("/b"), open("/g", both|ct))
	w.counts([]int{1, 4, 5}, 0, 2)
	live := w.m.Live()
	for i := range live[:cap(live)] {
		live[:cap(live)][i] = 77
	}
	w.counts([]int{1, 4, 5}, 0, 2)
}

// R2: the bytes that are handed in are neither kept nor changed, nor is their spare room; those that are answered are new memory.
func TestBytesAreNotShared(t *testing.T) {
	w := made(t, open("/f", both|mk), symlink("abc", "/s"))
	data := append(make([]byte, 0, 6), "abcdef"...)
	w.answers(root, api.Call{Op: api.Write, Data: data[:3]}, api.Result{N: 3})
	if string(data) != "abcdef" {
		t.Errorf("the data are %q", data)
	}
	copy(data, "uvwxyz")
	for range 2 {
		w.seeks(root, 0, 0, 0, 0)
		r := w.m.Do(root, read(0, 9))
		if string(r.Data) != "abc" {
			t.Errorf("read %q", r.Data)
		}
		copy(r.Data[:cap(r.Data)], strings.Repeat("!", cap(r.Data)))
		r = w.m.Do(root, api.Call{Op: api.Readlink, Path: "/s"})
		copy(r.Data[:cap(r.Data)], strings.Repeat("!", cap(r.Data)))
		r = w.m.Do(root, list("/"))
		if fmt.Sprint(r.Names) != "[f s]" {
			t.Errorf("List: %v", r.Names)
		}
		clear(r.Names[:cap(r.Names)])
	}
	w.answers(root, api.Call{Op: api.Readlink, Path: "/s"}, api.Result{Data: []byte("abc")})
}
