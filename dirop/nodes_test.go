package dirop_test

import (
	"fmt"
	"math"
	"testing"

	"warren/api"
	"warren/dirop"
)

// P13.1, Info: what the path leads to, or the Symlink itself; no right to it is asked for.
func TestInfo(t *testing.T) {
	w := made(t, "d/a:0:3:4 d/b f/b/f:1600:5:6 h/b/g=/b/f s/s:0:8:9=b/f s/t=/s s/dir=b s/none=no d/p m/p=/b s/loop=loop")
	w.must(w.T.Write(w.node("/b/f"), 40, []byte("abc")), "Write")
	top1 := api.Stat{Node: 1, Kind: api.Dir, Mode: 0o755, Links: 5, Size: 8}
	a := api.Stat{Node: 2, Kind: api.Dir, Uid: 3, Gid: 4, Links: 2}
	b := api.Stat{Node: 3, Kind: api.Dir, Mode: 0o755, Links: 2, Size: 2}
	f := api.Stat{Node: 4, Kind: api.File, Mode: 0o1600, Uid: 5, Gid: 6, Links: 2, Size: 43}
	s := api.Stat{Node: 5, Kind: api.Symlink, Uid: 8, Gid: 9, Links: 1, Size: 3}
	dir := api.Stat{Node: 7, Kind: api.Symlink, Mode: 0o777, Links: 1, Size: 1}
	for _, who := range []api.Cred{root, other} {
		w.as(who)
		for _, c := range []struct {
			path       string
			follow, no api.Stat // with NoFollow, without
		}{
			{"/", top1, top1}, {".", top1, top1}, {"..", top1, top1}, {"/a", a, a}, {"/a/", a, a}, {"/b", b, b}, {"/p", b, b}, {"/p/.", b, b}, {"/b/f", f, f}, {"/p/g", f, f}, {"/s", f, s}, {"/dir", b, dir}, {"/dir/", b, b}, {"/dir/g", f, f},
		} {
			for _, flags := range []int{0, api.NoFollow - 1, api.OnlyDir, math.MaxInt &^ api.NoFollow, math.MinInt} {
				w.tells(api.Call{Op: api.Info, Path: c.path, Flags: flags}, api.Result{Stat: c.follow}, api.Place{})
			}
			for _, flags := range []int{api.NoFollow, 255, -1} {
				w.tells(api.Call{Op: api.Info, Path: c.path, Flags: flags}, api.Result{Stat: c.no}, api.Place{})
			}
		}
		w.tells(api.Call{Op: api.Info, Path: "/t", To: "/no/x", Fd: 1, Mode: 2, N: 3, M: 4, Data: []byte("x")}, api.Result{Stat: f}, api.Place{})
		for _, path := range []string{"/no", "/no/", "/none", "/none/", "/p/no"} {
			w.refuses(api.NoEnt, api.Info, path)
		}
		w.refuses(api.Loop, api.Info, "/loop")
		w.refused(api.NoEnt, api.Call{Op: api.Info, Path: "/no", Flags: api.NoFollow})
		w.refuses(api.NotDir, api.Info, "/b/f/")
	}
	w.refuses(api.NoAccess, api.Info, "/a/.")
}

// P13.1, Chmod: twelve bits of Mode, by who owns it alone.
func TestChmod(t *testing.T) {
	w := made(t, "f/f:644:5:6 d/d:0:5:6 s/s=f d/p m/p=/d s/none=no")
	owner := api.Cred{Uid: 5, Gid: 9}
	for i, c := range []struct{ mode, want int }{{0, 0}, {0o7777, 0o7777}, {-1, 0o7777}, {0o10000, 0}, {0o170644, 0o644}, {math.MinInt, 0}, {math.MaxInt, 0o7777}, {0o1000, 0o1000}, {0o6001, 0o6001}} {
		w.as([]api.Cred{root, owner}[i%2])
		for path, of := range map[string]string{"/f": "/f", "/s": "/f", "/p": "/d", "/d/": "/d"} {
			was := w.stat(of)
			w.done(api.Call{Op: api.Chmod, Path: path, Mode: c.mode, Flags: api.NoFollow, N: 1, M: 1})
			was.Mode = c.want
			if got := w.stat(of); got != was {
				t.Errorf("Chmod %s to %o: %+v, want %+v", path, c.mode, got, was)
			}
		}
	}
	if got := w.stat("/s").Mode; got != 0o777 {
		t.Errorf("/s has the mode %o", got)
	}
	for _, who := range []api.Cred{{Uid: 7, Gid: 6}, {Uid: 6, Gid: 5}, other} {
		w.as(who)
		for _, path := range []string{"/f", "/s", "/d", "/p", "/", ".", "/d/"} {
			w.refused(api.NoPerm, api.Call{Op: api.Chmod, Path: path, Mode: 0o777})
		}
	}
	for _, who := range []api.Cred{root, other} {
		for _, path := range []string{"/no", "/no/", "/none"} {
			w.as(who).refuses(api.NoEnt, api.Chmod, path)
		}
	}
	w.as(root).done(api.Call{Op: api.Chmod, Path: "/", Mode: 0o700})
	w.refuses(api.NotDir, api.Chmod, "/f/")
	w.as(other).refuses(api.NoAccess, api.Chmod, "/f")
}

// P13.1, Chown: by Uid 0 alone; -1 leaves a number as it was.
func TestChown(t *testing.T) {
	w := made(t, "f/f:644:5:6 d/d:755:5:6 s/s=f d/p m/p=/d s/none=no")
	for _, path := range []string{"/f", "/s", "/d", "/p", "/d/."} {
		of := map[string]string{"/f": "/f", "/s": "/f", "/d": "/d", "/p": "/d", "/d/.": "/d"}[path]
		for _, c := range []struct{ n, m int }{{1, 2}, {-1, 3}, {4, -1}, {-1, -1}, {0, 0}, {math.MaxInt, -1}, {-1, math.MaxInt}, {5, 6}} {
			was := w.stat(of)
			w.as(api.Cred{Gid: c.m}).done(api.Call{Op: api.Chown, Path: path, N: c.n, M: c.m, Mode: 1, Flags: api.NoFollow})
			if c.n != -1 {
				was.Uid = c.n
			}
			if c.m != -1 {
				was.Gid = c.m
			}
			if got := w.stat(of); got != was {
				t.Errorf("Chown %s to %v: %+v, want %+v", path, c, got, was)
			}
		}
	}
	if got := w.stat("/s"); got.Uid != 0 || got.Gid != 0 {
		t.Errorf("/s is %+v", got)
	}
	for _, who := range []api.Cred{root, {Uid: 5, Gid: 6}, other} {
		w.as(who)
		for _, c := range []struct{ n, m int }{{-2, 0}, {0, -2}, {-2, -2}, {-1, -2}, {-2, -1}, {math.MinInt, 1}, {1, math.MinInt}} {
			w.refused(api.Invalid, api.Call{Op: api.Chown, Path: "/f", N: c.n, M: c.m})
			w.refused(api.NoEnt, api.Call{Op: api.Chown, Path: "/no", N: c.n, M: c.m})
			w.refused(api.NoEnt, api.Call{Op: api.Chown, Path: "/none", N: c.n, M: c.m})
		}
	}
	for _, who := range []api.Cred{{Uid: 5, Gid: 6}, {Uid: 5}, {Uid: 1}, other} {
		w.as(who)
		for _, c := range []struct{ n, m int }{{5, 6}, {-1, -1}, {7, 7}, {-1, 6}} {
			w.refused(api.NoPerm, api.Call{Op: api.Chown, Path: "/f", N: c.n, M: c.m})
		}
		w.refuses(api.NoEnt, api.Chown, "/no")
	}
}

// P13.1, Truncate: a File's size, by who may W it.
func TestTruncate(t *testing.T) {
	w := made(t, "f/f:200:5:6 s/s=f d/d:777 s/dir=d s/none=no d/p m/p=/d f/d/r:444:7:7")
	f := w.node("/f")
	w.must(w.T.Write(f, 0, []byte("abcdef")), "Write")
	w.as(api.Cred{Uid: 5})
	for _, c := range []struct {
		n    int
		want string
	}{{3, "abc"}, {5, "abc\x00\x00"}, {1, "a"}, {0, ""}, {2, "\x00\x00"}} {
		w.done(api.Call{Op: api.Truncate, Path: "/s", N: c.n, M: -1, Flags: api.NoFollow, Data: []byte("x")})
		if got, _ := w.T.Read(f, 0, api.MaxSize); string(got) != c.want {
			t.Errorf("Truncate to %d: %q, want %q", c.n, got, c.want)
		}
	}
	w.done(api.Call{Op: api.Truncate, Path: "/f", N: api.MaxSize})
	for _, n := range []int{api.MaxSize + 1, math.MaxInt} {
		w.refused(api.TooBig, api.Call{Op: api.Truncate, Path: "/f", N: n})
		w.as(other).refused(api.NoAccess, api.Call{Op: api.Truncate, Path: "/f", N: n})
		w.as(root).refused(api.TooBig, api.Call{Op: api.Truncate, Path: "/f", N: n})
		w.as(api.Cred{Uid: 5})
	}
	for _, who := range []api.Cred{root, {Uid: 5}, other} {
		w.as(who)
		for _, n := range []int{-1, math.MinInt, 0, 5, api.MaxSize + 1} {
			for _, path := range []string{"/no", "/no/", "/none", "/d/no"} {
				w.refused(api.NoEnt, api.Call{Op: api.Truncate, Path: path, N: n})
			}
			for _, path := range []string{"/", ".", "/d", "/d/", "/dir", "/p"} {
				w.refused(api.IsDir, api.Call{Op: api.Truncate, Path: path, N: n})
			}
			w.refused(api.NotDir, api.Call{Op: api.Truncate, Path: "/f/", N: n})
		}
		w.refused(api.Invalid, api.Call{Op: api.Truncate, Path: "/f", N: -1})
		w.refused(api.Invalid, api.Call{Op: api.Truncate, Path: "/s", N: math.MinInt})
	}
	w.refused(api.NoAccess, api.Call{Op: api.Truncate, Path: "/f", N: 1})
	w.refused(api.NoAccess, api.Call{Op: api.Truncate, Path: "/p/r", N: 0})
	w.as(api.Cred{Uid: 9, Gid: 6}).refused(api.NoAccess, api.Call{Op: api.Truncate, Path: "/f", N: 1})
	w.as(root).done(api.Call{Op: api.Truncate, Path: "/p/r", N: 7})
	if got := w.stat("/d/r").Size; got != 7 {
		t.Errorf("/d/r has the size %d", got)
	}
}

// P13.1, Truncate: without blocks that are left there is room for holes, and what is cut away is room for others.
func TestFullBlocks(t *testing.T) {
	w := sized(t, 4, 2)
	w.add("f/f f/g f/h")
	f, g := w.node("/f"), w.node("/g")
	w.must(w.T.Write(f, 0, make([]byte, 2*api.BlockBytes)), "Write")
	w.done(api.Call{Op: api.Truncate, Path: "/g", N: api.MaxSize})
	if why := w.T.Write(g, 0, []byte("x")); why != api.NoSpace {
		t.Errorf("Write: %v", why)
	}
	w.done(api.Call{Op: api.Truncate, Path: "/f", N: api.BlockBytes})
	w.must(w.T.Write(g, 0, []byte("x")), "Write")
	w.does(api.Rename, "/h", "/f")
	w.must(w.T.Write(g, api.BlockBytes, []byte("x")), "Write")
	w.does(api.Unlink, "/g")
	w.must(w.T.Write(w.node("/f"), 0, make([]byte, 2*api.BlockBytes)), "Write")
}

// P13.1, List: the names in order of bytes, by who may R it.
func TestList(t *testing.T) {
	w := made(t, "d/d:444 d/d/b f/d/a s/d/B=x d/d/é d/d/aa s/dir=d d/x:733 d/x/in f/f:777 s/file=f s/none=no d/p m/p=/d")
	want := api.Result{Names: []string{"B", "a", "aa", "b", "é"}}
	for _, who := range []api.Cred{root, other} {
		w.as(who)
		for _, path := range []string{"/d", "/d/", "/dir", "/dir/", "/p", "/p/"} {
			w.tells(api.Call{Op: api.List, Path: path, N: 1, M: 1, Flags: api.NoFollow}, want, api.Place{})
		}
		w.tells(call(api.List, "."), api.Result{Names: []string{"d", "dir", "f", "file", "none", "p", "x"}}, api.Place{})
		w.tells(call(api.List, "/.."), api.Result{Names: []string{"d", "dir", "f", "file", "none", "p", "x"}}, api.Place{})
		for _, path := range []string{"/no", "/no/", "/none", "/x/no"} {
			w.refuses(api.NoEnt, api.List, path)
		}
		for _, path := range []string{"/f", "/f/", "/file", "/file/"} {
			w.refuses(api.NotDir, api.List, path)
		}
	}
	w.refuses(api.NoAccess, api.List, "/x")
	w.refuses(api.NoAccess, api.List, "/x/.")
	w.tells(call(api.List, "/x/in"), api.Result{}, api.Place{})
	w.as(root).tells(call(api.List, "/x"), api.Result{Names: []string{"in"}}, api.Place{})
	w.must(w.T.SetMode(w.node("/f"), 0), "SetMode")
	w.as(other).refuses(api.NotDir, api.List, "/f")
	w.into("/x/in")
	w.tells(call(api.List, "."), api.Result{}, api.Place{})
}

// P13.1, Chdir: the place that is come to, by who may X it.
func TestChdir(t *testing.T) {
	w := made(t, "d/d:711 d/d/in d/x:766:7:7 s/dir=d/in f/f:777 s/file=f s/none=no d/p m/p=/d d/d/q m/p/q=/x")
	d, in, x := w.node("/d"), w.node("/d/in"), w.node("/x")
	for _, who := range []api.Cred{root, other} {
		w.as(who)
		for path, want := range map[string]api.Place{"/": top, ".": top, "..": top, "/d": at(0, d), "/d/": at(0, d), "d/in": at(0, in), "/dir": at(0, in), "/dir/..": at(0, d), "/p": at(1, d), "/p/in": at(1, in), "/p/in/..": at(1, d), "/p/..": top, "/p/q": at(2, x)} {
			w.tells(api.Call{Op: api.Chdir, Path: path, Flags: api.NoFollow, N: 1}, api.Result{}, want)
		}
		for _, path := range []string{"/no", "/no/", "/none", "/d/no"} {
			w.refuses(api.NoEnt, api.Chdir, path)
		}
		for _, path := range []string{"/f", "/f/", "/file", "/file/"} {
			w.refuses(api.NotDir, api.Chdir, path)
		}
	}
	w.as(api.Cred{Uid: 8, Gid: 8}).refuses(api.NoAccess, api.Chdir, "/x")
	w.refuses(api.NoAccess, api.Chdir, "/p/q")
	w.as(api.Cred{Uid: 8, Gid: 7}).refuses(api.NoAccess, api.Chdir, "/x/")
	w.as(root).tells(call(api.Chdir, "/x"), api.Result{}, at(0, x))
	w.must(w.T.SetMode(w.node("/f"), 0), "SetMode")
	w.as(other).refuses(api.NotDir, api.Chdir, "/f")
	w.into("/d/in")
	w.tells(call(api.Chdir, "."), api.Result{}, at(0, in))
	w.tells(call(api.Chdir, ".."), api.Result{}, at(0, in))
}

// bound asks for the mounts' tops and for where each lies, from mount 1 on.
func (w *world) bound(want ...api.Place) {
	w.t.Helper()
	list := w.M.List()
	if len(list) != 1+len(want)/2 {
		w.t.Fatalf("the mounts %v", list)
	}
	for i, m := range list[1:] {
		node, _ := w.M.Root(m)
		p, _ := w.M.Up(at(m, node))
		if at(m, node) != want[2*i] || p != want[2*i+1] {
			w.t.Errorf("mount %v lies at %v, want %v at %v", at(m, node), p, want[2*i], want[2*i+1])
		}
	}
}

// held asks how often each of the first nodes is.
func (w *world) held(want ...int) {
	w.t.Helper()
	for i, n := range want {
		if got := holds(w.T, i+1); got != n {
			w.t.Errorf("node %d is held %d times, want %d", i+1, got, n)
		}
	}
}

// P13.1, Bind and Unbind: the mount lies at what To comes to, and both nodes are held until it is gone.
func TestBind(t *testing.T) {
	w := made(t, "d/a d/b d/c s/s=a s/t=b d/a/in")
	w.held(0, 0, 0, 0, 0, 0, 0)
	w.done(api.Call{Op: api.Bind, Path: "/s", To: "t", Flags: api.NoFollow, N: 5, Mode: 7})
	w.bound(at(1, 2), at(0, 3))
	w.held(0, 1, 1, 0, 0, 0, 0)
	// Over a mount's top, which is what To comes to.
	w.does(api.Bind, "/c/", "/b/")
	w.bound(at(1, 2), at(0, 3), at(2, 4), at(1, 2))
	w.held(0, 2, 1, 1, 0, 0, 0)
	// Of a Dir over itself, and of what lies above.
	w.does(api.Bind, "/a/in", "/a/in")
	w.held(0, 2, 1, 1, 0, 0, 2)
	w.does(api.Bind, "/", "/c")
	w.bound(at(1, 2), at(0, 3), at(2, 4), at(1, 2), at(3, 7), at(0, 7), at(4, 1), at(0, 4))
	w.held(1, 2, 1, 2, 0, 0, 2)
	w.does(api.Unbind, "/b")
	w.held(1, 1, 1, 1, 0, 0, 2)
	w.does(api.Unbind, "/a/in/.")
	w.does(api.Unbind, "t")
	w.held(1, 0, 0, 1, 0, 0, 0)
	w.does(api.Unbind, "/c/")
	w.held(0, 0, 0, 0, 0, 0, 0)
	w.bound()
	w.does(api.Bind, "/a", "/b")
	w.bound(at(5, 2), at(0, 3))
}

// P13.1: what a mount holds stays live without a name, until it is gone.
func TestBindHolds(t *testing.T) {
	w := made(t, "d/a d/b d/c")
	w.does(api.Bind, "/a", "/b")
	w.does(api.Rmdir, "/a")
	w.tells(call(api.List, "/b"), api.Result{}, api.Place{})
	w.refuses(api.NoEnt, api.Mkdir, "/b/new")
	w.does(api.Unbind, "/b")
	if fmt.Sprint(w.T.Live()) != "[1 3 4]" {
		t.Errorf("live are %v", w.T.Live())
	}
	// The node at which it lies can lose its name by tree's own call alone.
	w.does(api.Bind, "/c", "/b")
	w.Cwd = at(0, 3)
	w.must(w.T.Part(1, "b"), "Part")
	w.tells(call(api.Chdir, "."), api.Result{}, at(2, 4))
	w.does(api.Unbind, ".")
	if fmt.Sprint(w.T.Live()) != "[1 4]" {
		t.Errorf("live are %v", w.T.Live())
	}
	w.held(0, 0, 0, 0)
}

// P13.1, Bind: each refusal, and which comes first.
func TestBindRefused(t *testing.T) {
	w := made(t, "d/d:777:7:7 d/e:777:7:7 f/f s/dir=d s/file=f s/none=no s/loop=loop d/p m/p=/d")
	paths := []string{"", "/", "/d", "/e/", "/dir", "/f", "/f/", "/f/x", "/file", "/no", "/none", "/no/x", "/loop", "/p", "\x00"}
	for _, who := range []api.Cred{other, {Uid: 7}, {Uid: -1}} {
		for i, path := range paths {
			w.as(who).refuses(api.NoPerm, api.Bind, path, paths[(i*7+3)%len(paths)])
			w.refuses(api.NoPerm, api.Bind, path, "/e")
		}
	}
	w.as(api.Cred{Gid: 7})
	for _, to := range paths {
		for _, path := range []string{"/no", "/no/", "/none", "/d/no", "", "/no/x"} {
			w.refuses(api.NoEnt, api.Bind, path, to)
		}
		for _, path := range []string{"/f", "/f/", "/file", "/f/x"} {
			w.refuses(api.NotDir, api.Bind, path, to)
		}
		w.refuses(api.Loop, api.Bind, "/loop", to)
	}
	for n := range 2 {
		for _, path := range []string{"/d", "/", "/p", "/dir/"} {
			for _, to := range []string{"/no", "/no/", "/none", "/d/no"} {
				w.refuses(api.NoEnt, api.Bind, path, to)
			}
			for _, to := range []string{"/f", "/file"} {
				w.refuses(api.NotDir, api.Bind, path, to)
			}
			w.refuses(api.Loop, api.Bind, path, "/loop")
			if n == 1 {
				w.refuses(api.NoSpace, api.Bind, path, "/e")
				w.refuses(api.NoSpace, api.Bind, path, "/p")
			}
		}
		// All that again with a table that is full.
		for range api.MaxMounts - len(w.M.List()) {
			w.does(api.Bind, "/d", "/p")
		}
	}
	w.does(api.Unbind, "/p")
	w.does(api.Bind, "/e", "/d")
	if list := w.M.List(); len(list) != api.MaxMounts || list[api.MaxMounts-1] != api.MaxMounts {
		t.Errorf("the mounts %v", list)
	}
}

// P13.1, Unbind: each refusal, and which comes first.
func TestUnbindRefused(t *testing.T) {
	w := made(t, "d/d:777 d/d/in d/p s/to=p f/f s/none=no s/loop=loop m/p=/d d/q m/p/in=/q d/r m/r=/")
	for _, who := range []api.Cred{other, {Uid: -1}} {
		for _, path := range []string{"", "/", "/p", "/p/in", "/r", "/d", "/f", "/no", "/no/x", "/f/x", "/loop"} {
			w.as(who).refuses(api.NoPerm, api.Unbind, path)
		}
	}
	w.as(root)
	for _, path := range []string{"/no", "/no/", "/none", "/p/no", "", "/no/x"} {
		w.refuses(api.NoEnt, api.Unbind, path)
	}
	// The root is the top of two mounts; what is come to by / is that of mount 0. Neither /r/p nor /r/p/in is covered in mount 3.
	for _, path := range []string{"/", ".", "/..", "/d", "/d/in", "/f", "/q", "/r/d", "/r/p", "/r/f"} {
		w.refuses(api.Invalid, api.Unbind, path)
	}
	for _, path := range []string{"/p", "/p/", "/to", "/p/.", "/p/in/.."} {
		w.refuses(api.MountBusy, api.Unbind, path)
	}
	w.refuses(api.Loop, api.Unbind, "/loop")
	w.refuses(api.NotDir, api.Unbind, "/f/")
	w.does(api.Unbind, "/p/in")
	w.refuses(api.Invalid, api.Unbind, "/p/in")
	w.does(api.Unbind, "/to")
	w.refuses(api.Invalid, api.Unbind, "/to")
	w.does(api.Unbind, "/r")
	w.bound()
}

// P13.1, Unbind: a mount that lies at what is no Dir, or whose nodes nobody holds, goes likewise.
func TestUnbindOthers(t *testing.T) {
	w := made(t, "f/f f/g m/g=/f d/d d/e")
	w.does(api.Unbind, "/g")
	w.held(0, 0, 0, 0, 0)
	if _, why := w.M.Bind(at(0, 4), 5); why != api.OK {
		t.Fatal(why)
	}
	w.does(api.Unbind, "/d")
	w.bound()
	w.held(0, 0, 0, 0, 0)
	w.names("/", "d", "e", "f", "g")
}

// P13.1: mounts may be of nodes that are live no more, if others lay them: the calls end, and tell what tree tells of such.
func TestMountsOfNothing(t *testing.T) {
	w := made(t, "d/d f/f")
	if _, why := w.M.Bind(at(0, 2), 50); why != api.OK {
		t.Fatal(why)
	}
	w.tells(call(api.Info, "/d"), api.Result{}, api.Place{})
	for op, why := range map[int]api.Errno{
		api.Mkdir: api.Exists, api.Rmdir: api.NotDir, api.Unlink: api.MountBusy, api.Link: api.CrossDev, api.Readlink: api.NotSymlink, api.Rename: api.MountBusy,
		api.Chmod: api.ErrArg, api.Chown: api.ErrArg, api.Truncate: api.ErrArg, api.List: api.NotDir, api.Chdir: api.NotDir, api.Bind: api.NotDir,
	} {
		w.refuses(why, op, "/d", "/new")
	}
	w.does(api.Unbind, "/d")
	w.does(api.Rmdir, "/d")
}

// P13.1: `..` may lead to what is no Dir, if a mount of such lies there: that has no name, and no walk follows it.
func TestUpIntoNoDir(t *testing.T) {
	for _, who := range []api.Cred{root, other} {
		w := made(t, "d/a d/a/in f/f:666 m/a=/f d/b d/b/in s/s=f m/b=/s")
		inA, inB := at(0, 3), at(0, 6)
		w.Who = dirop.Who{Cwd: inA, Cred: who}
		for _, op := range []int{api.Rmdir, api.Unlink} {
			w.refuses(api.Invalid, op, "..")
		}
		for _, to := range []string{"/new", "/new/", "/b", "..", "/"} {
			w.refuses(api.MountBusy, api.Rename, "..", to)
			w.refuses(api.MountBusy, api.Rename, "/f", "..")
		}
		w.refuses(api.Exists, api.Mkdir, "..")
		w.refuses(api.Exists, api.Link, "/f", "..")
		w.refuses(api.CrossDev, api.Link, "..", "/new")
		w.refuses(api.NotDir, api.List, "..")
		w.refuses(api.NotDir, api.Info, "../")
		w.done(api.Call{Op: api.Truncate, Path: "..", N: 4})
		w.tells(call(api.Info, ".."), api.Result{Stat: api.Stat{Node: 4, Kind: api.File, Mode: 0o666, Links: 1, Size: 4}}, api.Place{})
		w.Cwd = inB
		w.tells(call(api.Readlink, ".."), api.Result{Data: []byte("f")}, api.Place{})
		w.tells(call(api.Info, ".."), api.Result{Stat: api.Stat{Node: 7, Kind: api.Symlink, Mode: 0o777, Links: 1, Size: 1}}, api.Place{})
		w.refuses(api.NotDir, api.Chdir, "..")
		w.refused(api.ErrArg, api.Call{Op: api.Truncate, Path: "..", N: 4})
		w.as(root).does(api.Unbind, "..")
		w.tells(call(api.Chdir, ".."), api.Result{}, at(0, 5))
	}
}

// R3: calls that are refused take no number of a node or of a mount.
func TestRefusalsTakeNothing(t *testing.T) {
	w := made(t, words)
	next := len(w.T.Live()) + 1
	for op := range ops {
		for _, path := range []string{"", "/", "/f", "/no", "/e", "/m", "/s"} {
			w.as(other)
			r, p := dirop.Do(w.World, w.Who, api.Call{Op: op, Path: path, To: "/f", N: -5})
			if r.Why == api.OK {
				continue
			}
			if !same(r, api.Result{Why: r.Why}) || p != (api.Place{}) {
				t.Errorf("%s: %+v, %v", ops[op], r, p)
			}
		}
	}
	w.as(root).does(api.Mkdir, "/new")
	if got := w.node("/new"); got != next {
		t.Errorf("/new is %d, want %d", got, next)
	}
	w.does(api.Bind, "/e", "/new")
	if list := w.M.List(); len(list) != 3 || list[2] != 2 {
		t.Errorf("the mounts %v", list)
	}
}
