package dirop_test

import (
	"fmt"
	"strings"
	"testing"
	"unsafe"

	"warren/api"
	"warren/dirop"
)

// P13.1, Mkdir: an empty Dir of ten bits of Mode, of who calls.
func TestMkdir(t *testing.T) {
	w := made(t, "d/open:777 d/open/d f/f s/dir=open s/none=open/target s/deep=/open/d/")
	w.done(api.Call{Op: api.Mkdir, Path: "/a", Mode: -1})
	if got, want := w.stat("/a"), (api.Stat{Node: 8, Kind: api.Dir, Mode: 0o1777, Links: 2}); got != want {
		t.Errorf("/a is %+v, want %+v", got, want)
	}
	w.as(api.Cred{Uid: 7, Gid: 8}).done(api.Call{Op: api.Mkdir, Path: "open/b", To: "/x", Fd: 3, Flags: -1, Mode: 0o6640, N: 9, M: 9, Data: []byte("x")})
	if got, want := w.stat("/open/b"), (api.Stat{Node: 9, Kind: api.Dir, Mode: 0o640, Uid: 7, Gid: 8, Links: 2}); got != want {
		t.Errorf("/open/b is %+v, want %+v", got, want)
	}
	w.done(api.Call{Op: api.Mkdir, Path: "/dir/c/", Mode: 0o1001})
	if got, want := w.stat("/open/c"), (api.Stat{Node: 10, Kind: api.Dir, Mode: 0o1001, Uid: 7, Gid: 8, Links: 2}); got != want {
		t.Errorf("/open/c is %+v, want %+v", got, want)
	}
	w.does(api.Mkdir, "/none/")
	w.names("/open", "b", "c", "d", "target")
	w.as(root).does(api.Mkdir, "/deep/./x")
	w.does(api.Mkdir, "/open/d/../d/y")
	w.names("/open/d", "x", "y")
	w.does(api.Mkdir, strings.Repeat("n", api.MaxName))
	w.names("/", "a", "deep", "dir", "f", strings.Repeat("n", api.MaxName), "none", "open")
}

// P13.1, Mkdir: what is there is not made, whatever it is, and so are the dots; In comes behind that, tree.Make's refusals at last.
func TestMkdirRefused(t *testing.T) {
	w := made(t, "d/shut d/shut/d f/shut/f s/shut/s=d s/shut/no=none d/p m/p=/shut d/locked:555:7:7")
	for _, who := range []api.Cred{root, other} {
		w.as(who)
		for _, path := range []string{"/", "//", ".", "..", "./", "/shut/.", "/shut/..", "/shut/d/../", "/shut", "/shut/", "/shut/d", "/shut/d/", "/shut/f", "/shut/s", "/shut/s/", "/shut/no", "/p", "/p/d", "/p/."} {
			w.refuses(api.Exists, api.Mkdir, path)
		}
	}
	for _, path := range []string{"/new", "/new/", "/shut/new", "/shut/s/new", "/shut/no/", "/p/new", "/locked/new"} {
		w.refuses(api.NoAccess, api.Mkdir, path)
	}
	for range api.MaxLinks - 3 {
		w.add(fmt.Sprintf("d/shut/%d", len(w.T.Live())))
	}
	w.as(root).refuses(api.ManyLinks, api.Mkdir, "/shut/new")
	w.as(other).refuses(api.NoAccess, api.Mkdir, "/shut/new")
	w.refuses(api.Exists, api.Mkdir, "/shut/d")
	w.into("/shut/d")
	w.as(root).refuses(api.NoEnt, api.Mkdir, "new")
	w.refuses(api.NoEnt, api.Mkdir, "./new/")
	w.refuses(api.Exists, api.Mkdir, ".")
	w.refuses(api.Exists, api.Mkdir, "..")
	w.as(other).refuses(api.NoAccess, api.Mkdir, "new")
}

// P13.1: a tree that is full has room for names, for nodes none.
func TestFullTree(t *testing.T) {
	w := sized(t, 4, 0)
	w.add("d/d f/f f/g")
	w.refuses(api.NoSpace, api.Mkdir, "/new")
	w.refuses(api.NoSpace, api.Mkdir, "/d/new/")
	w.refuses(api.NoSpace, api.Link2, "x", "/new")
	w.refuses(api.Exists, api.Mkdir, "/d")
	w.refuses(api.Exists, api.Link2, "x", "/d")
	w.as(other).refuses(api.NoAccess, api.Mkdir, "/new")
	w.refuses(api.NoAccess, api.Link2, "x", "/new")
	w.as(root).does(api.Link, "/f", "/h")
	w.does(api.Rename, "/h", "/i")
	w.does(api.Unlink, "/i")
	w.does(api.Rename, "/f", "/g")
	w.does(api.Mkdir, "/new")
	if got := w.node("/new"); got != 5 {
		t.Errorf("/new is %d", got)
	}
	w.does(api.Rmdir, "/d")
	w.does(api.Link2, "x", "/d")
	w.names("/", "d", "g", "new")
}

// P13.1, Rmdir and Unlink: the name is gone, and what it was the last one of.
func TestTake(t *testing.T) {
	w := made(t, "d/a d/a/b d/a/c f/f h/g=/f s/s=a s/t=a/c f/a/f d/p m/p=/a")
	live := len(w.T.Live())
	w.does(api.Unlink, "/f")
	w.does(api.Unlink, "/s")
	w.does(api.Rmdir, "/a/b/")
	w.does(api.Rmdir, "t/")
	w.does(api.Unlink, "/p/../p/./f")
	w.names("/", "a", "g", "p", "t")
	w.names("/a")
	if got := len(w.T.Live()); got != live-4 {
		t.Errorf("%d nodes are live, want %d", got, live-4)
	}
	w.does(api.Unlink, "/g")
	w.does(api.Unlink, "/t")
	w.add("d/a/b d/a/b/c")
	w.does(api.Rmdir, "/p/b/c")
	w.does(api.Rmdir, "a/b")
	w.names("/", "a", "p")
}

// P13.1, Rmdir: each refusal, and which comes first.
func TestRmdirRefused(t *testing.T) {
	w := made(t, "d/shut d/shut/d d/shut/d/x f/shut/f s/shut/s=d d/shut/p m/shut/p=/shut/d f/ff m/ff=/shut/f d/st:1777 d/st/d d/st/d/x d/locked:1555 d/locked/d d/full:777 d/full/d d/full/d/x d/c d/c/in d/q m/q=/c d/r m/q/in=/r")
	for _, who := range []api.Cred{root, other} {
		w.as(who)
		for _, path := range []string{"/no", "/no/", "/shut/no", "/st/no", "/q/no"} {
			w.refuses(api.NoEnt, api.Rmdir, path)
		}
		// /c/in is covered, by a mount that lies at it in another mount.
		for _, path := range []string{"/", ".", "..", "/shut/.", "/shut/..", "/shut/d/.", "/shut/p/.", "/q/.", "/c/in/.", "/st/d/.", "/shut/d/../"} {
			w.refuses(api.Invalid, api.Rmdir, path)
		}
		for _, path := range []string{"/shut/f", "/shut/s", "/ff"} {
			w.refuses(api.NotDir, api.Rmdir, path)
		}
		for _, path := range []string{"/shut/p", "/shut/p/", "/q", "/q/in", "/c/in", "/c/in/"} {
			w.refuses(api.MountBusy, api.Rmdir, path)
		}
		w.refuses(api.NotEmpty, api.Rmdir, "/full/d")
		w.refuses(api.NotEmpty, api.Rmdir, "/full/d/")
	}
	for _, path := range []string{"/shut", "/shut/d", "/shut/s/", "/shut/d/x", "/locked/d", "/c", "/full/d/x"} {
		w.refuses(api.NoAccess, api.Rmdir, path)
	}
	w.refuses(api.NoPerm, api.Rmdir, "/st/d")
	w.as(root).refuses(api.NotEmpty, api.Rmdir, "/st/d")
	w.refuses(api.NotEmpty, api.Rmdir, "/shut/s/")
	w.refuses(api.NotEmpty, api.Rmdir, "/c")
	w.does(api.Rmdir, "/locked/d")
}

// P13.1, Unlink: each refusal, and which comes first.
func TestUnlinkRefused(t *testing.T) {
	w := made(t, "d/shut d/shut/d f/shut/f s/shut/s=d d/shut/p m/shut/p=/shut/d f/shut/g f/shut/ff m/shut/ff=/shut/g d/st:1777 f/st/f d/st/d d/locked:1555 f/locked/f d/open:777 f/open/f f/open/h m/open/h=/shut/g d/open/d d/q m/q=/open m/q/f=/shut/f s/file=shut/f")
	for _, who := range []api.Cred{root, other} {
		w.as(who)
		for _, path := range []string{"/no", "/no/", "/shut/no", "/st/no", "/open/no"} {
			w.refuses(api.NoEnt, api.Unlink, path)
		}
		for _, path := range []string{"/", ".", "..", "/shut/.", "/shut/..", "/shut/p/.", "/q/.", "/shut/d/../"} {
			w.refuses(api.Invalid, api.Unlink, path)
		}
		for _, path := range []string{"/shut", "/shut/d", "/shut/d/", "/shut/s/", "/shut/p", "/q", "/st/d", "/open/d"} {
			w.refuses(api.IsDir, api.Unlink, path)
		}
		// /open/f is covered, by a mount that lies at it in another mount.
		for _, path := range []string{"/shut/ff", "/open/h", "/q/f", "/open/f"} {
			w.refuses(api.MountBusy, api.Unlink, path)
		}
		w.refuses(api.NotDir, api.Unlink, "/shut/f/")
		w.refuses(api.NotDir, api.Unlink, "/file/")
	}
	for _, path := range []string{"/shut/f", "/shut/s", "/shut/g", "/locked/f", "/file"} {
		w.refuses(api.NoAccess, api.Unlink, path)
	}
	w.refuses(api.NoPerm, api.Unlink, "/st/f")
	w.as(root).does(api.Unlink, "/st/f")
	w.does(api.Unlink, "/locked/f")
}

// P13.1: whom a Dir's sticky bit keeps from taking a name away: who owns neither the Dir nor what has the name.
func TestSticky(t *testing.T) {
	own := api.Cred{Uid: 5, Gid: 9}
	lord := api.Cred{Uid: 6, Gid: 9}
	group := api.Cred{Uid: 8, Gid: 5}
	for _, mode := range []string{"777", "1777", "2777", "4777", "7777"} {
		kept := mode == "1777" || mode == "7777"
		for _, c := range []struct {
			who  api.Cred
			none bool
		}{{root, false}, {own, false}, {lord, false}, {group, true}, {other, true}} {
			words := strings.ReplaceAll("d/st:MODE:6:6 f/st/f:600:5:5 d/st/d:777:5:5 s/st/s:777:5:5=f d/w:777", "MODE", mode)
			for _, take := range []api.Call{
				call(api.Unlink, "/st/f"), call(api.Rmdir, "/st/d"), call(api.Unlink, "/st/s"), call(api.Rename, "/st/f", "/st/g"), call(api.Rename, "/st/f", "/w/f"), call(api.Rename, "/st/d", "/w/d"),
			} {
				w := made(t, words).as(c.who)
				if c.none && kept {
					w.refused(api.NoPerm, take)
				} else {
					w.done(take)
				}
			}
			// The name that To takes over is kept likewise, one that is new is not.
			w := made(t, words+" f/w/new:666:8:8 d/w/dir:777:8:8").as(c.who)
			if c.none && kept {
				w.refuses(api.NoPerm, api.Rename, "/w/new", "/st/f")
				w.refuses(api.NoPerm, api.Rename, "/w/dir", "/st/d/")
			} else {
				w.does(api.Rename, "/w/new", "/st/f")
				w.does(api.Rename, "/w/dir", "/st/d/")
			}
			w = made(t, words+" f/w/new:666:8:8").as(c.who)
			w.does(api.Rename, "/w/new", "/st/new")
			w.does(api.Link, "/st/f", "/st/l")
			w.done(api.Call{Op: api.Mkdir, Path: "/st/m", Mode: 0o700})
			w.does(api.Link2, "x", "/st/n")
			w.does(api.Unlink, "/st/n")
			w.does(api.Rename, "/st/m", "/w/m")
		}
	}
}

// P13.1, Link: one more name of what is found, a Symlink itself.
func TestLink(t *testing.T) {
	w := made(t, "d/a f/f:600:5:5 s/s=f s/dir=a d/open:777 d/p m/p=/a")
	f, s := w.node("/f"), w.node("/s")
	w.does(api.Link, "/f", "/a/g")
	w.does(api.Link, "s", "a/../t")
	w.does(api.Link, "/dir/g", "/dir/h")
	w.does(api.Link, "/p/g", "/p/i")
	w.as(other).does(api.Link, "/f", "/open/f")
	for path, want := range map[string]int{"/f": f, "/a/g": f, "/a/h": f, "/a/i": f, "/open/f": f, "/s": s, "/t": s} {
		if got := w.node(path); got != want {
			t.Errorf("%s is %d, want %d", path, got, want)
		}
	}
	if got, want := w.stat("/f"), (api.Stat{Node: f, Kind: api.File, Mode: 0o600, Uid: 5, Gid: 5, Links: 5}); got != want {
		t.Errorf("/f is %+v, want %+v", got, want)
	}
	w.names("/", "a", "dir", "f", "open", "p", "s", "t")
}

// P13.1, Link: each refusal, and which comes first.
func TestLinkRefused(t *testing.T) {
	w := made(t, "d/shut d/shut/d f/shut/f s/shut/s=d s/shut/none=x d/p m/p=/shut f/ff m/ff=/shut/f d/open:777 f/f s/up=open/..")
	for _, who := range []api.Cred{root, other} {
		w.as(who)
		for _, path := range []string{"/no", "/no/", "/shut/no"} {
			for _, to := range []string{"/new", "/shut/f", "/", "", "/f/x", "/no/x"} {
				w.refuses(api.NoEnt, api.Link, path, to)
			}
		}
		for _, path := range []string{"/", ".", "..", "/shut", "/shut/", "/shut/d", "/shut/s/", "/p", "/up/", "/open/.."} {
			for _, to := range []string{"/new", "/shut/f", "/", "", "/f/x", "/no/x"} {
				w.refuses(api.NoPerm, api.Link, path, to)
			}
		}
		for _, to := range []string{"/", ".", "..", "/shut/.", "/open/..", "/f", "/shut/d", "/shut/d/", "/shut/s", "/shut/s/", "/shut/none", "/ff", "/p", "/p/f", "/p/."} {
			w.refuses(api.Exists, api.Link, "/f", to)
			w.refuses(api.Exists, api.Link, "/p/f", to)
		}
		for _, to := range []string{"/new/", "/shut/new/", "/shut/none/", "/p/new/", "/open/new/"} {
			w.refuses(api.NoEnt, api.Link, "/f", to)
			w.refuses(api.NoEnt, api.Link, "/p/f", to)
		}
		w.refuses(api.CrossDev, api.Link, "/f", "/p/new")
		w.refuses(api.CrossDev, api.Link, "/p/f", "/shut/new")
		w.refuses(api.CrossDev, api.Link, "/p/f", "/open/new")
		// What is found at /ff is of the mount that lies there, not of the one in which the name is.
		w.refuses(api.CrossDev, api.Link, "/ff", "/open/new")
		w.refuses(api.CrossDev, api.Link, "/ff", "/new")
	}
	for _, to := range []string{"/new", "/shut/new", "/shut/s/new"} {
		w.refuses(api.NoAccess, api.Link, "/f", to)
	}
	w.refuses(api.NoAccess, api.Link, "/p/f", "/p/new")
	for n := range api.MaxLinks - 1 {
		w.as(root).does(api.Link, "/f", fmt.Sprint("/", n))
	}
	w.refuses(api.ManyLinks, api.Link, "/f", "/new")
	w.refuses(api.Exists, api.Link, "/f", "/0")
	w.as(other).refuses(api.ManyLinks, api.Link, "/f", "/open/new")
	w.refuses(api.NoAccess, api.Link, "/f", "/new")
	w.into("/open")
	w.refuses(api.NoEnt, api.Link, "/f", "new")
	w.into("/shut/d")
	w.refuses(api.NoAccess, api.Link, "/f", "new")
	w.as(root).refuses(api.NoEnt, api.Link, "/f", "new")
}

// P13.1, Link2: a Symlink of who calls, of mode 777, with just that text; Readlink tells it.
func TestSymlink(t *testing.T) {
	w := made(t, "d/open:777 s/dir=open/")
	long := strings.Repeat("/x", api.MaxPath/2)
	for i, text := range []string{"x", "/", "//a/./b/", "..", " \t\n", "\xff\xfe", "none\\", strings.Repeat("x", api.MaxPath), long} {
		who := api.Cred{Uid: i, Gid: i + 1}
		name := fmt.Sprint("/dir/", i)
		w.as(who).done(api.Call{Op: api.Link2, Path: text, To: name, Mode: 0o4000, Flags: -1, N: 5, M: 6})
		if got, want := w.stat(name), (api.Stat{Node: 4 + i, Kind: api.Symlink, Mode: 0o777, Uid: i, Gid: i + 1, Links: 1, Size: len(text)}); got != want {
			t.Errorf("%s is %+v, want %+v", name, got, want)
		}
		w.as(other).tells(api.Call{Op: api.Readlink, Path: name, To: "/", N: 1, M: 2}, api.Result{Data: []byte(text)}, api.Place{})
	}
	w.names("/open", "0", "1", "2", "3", "4", "5", "6", "7", "8")
}

// P13.1, Link2: each refusal, and which comes first: the text's ahead of what To is.
func TestSymlinkRefused(t *testing.T) {
	w := made(t, "d/shut d/shut/d f/shut/f s/shut/s=d s/shut/none=x d/p m/p=/shut d/open:777 d/open/in:777 s/loop=loop")
	tooLong := strings.Repeat("x", api.MaxPath+1)
	for _, who := range []api.Cred{root, other} {
		w.as(who)
		for _, to := range []string{"/new", "/open/new", "", "\x00", "/", "/shut/f", "/shut/f/x", "/no/x", "/shut/new", "/loop/"} {
			w.refuses(api.NoEnt, api.Link2, "", to)
			w.refuses(api.NameLong, api.Link2, tooLong, to)
			w.refuses(api.NameLong, api.Link2, "\x00"+tooLong, to)
			w.refuses(api.Invalid, api.Link2, "\x00", to)
			w.refuses(api.Invalid, api.Link2, "a\x00", to)
			w.refuses(api.Invalid, api.Link2, tooLong[2:]+"\x00", to)
		}
		for _, to := range []string{"/", ".", "..", "/shut/.", "/open/in/..", "/shut", "/shut/d", "/shut/d/", "/shut/f", "/shut/s", "/shut/s/", "/shut/none", "/p", "/p/f", "/p/.", "/loop"} {
			w.refuses(api.Exists, api.Link2, "x", to)
		}
		for _, to := range []string{"/new/", "/shut/new/", "/shut/none/", "/p/new/", "/open/new/"} {
			w.refuses(api.NoEnt, api.Link2, "x", to)
		}
		w.refuses(api.NotDir, api.Link2, "x", "/shut/f/")
		w.refuses(api.Loop, api.Link2, "x", "/loop/")
	}
	for _, to := range []string{"/new", "/shut/new", "/shut/s/new", "/p/new"} {
		w.refuses(api.NoAccess, api.Link2, "x", to)
	}
	w.into("/open/in")
	w.refuses(api.NoEnt, api.Link2, "x", "new")
	w.into("/shut/d")
	w.refuses(api.NoAccess, api.Link2, "x", "new")
	w.as(root).refuses(api.NoEnt, api.Link2, "x", "new")
}

// P13.1, Readlink: the Symlink itself, unless a slash stands behind it; who may read it is not asked.
func TestReadlink(t *testing.T) {
	w := made(t, "d/a s/a/s:0=../x s/empty= s/dir=a/ s/link=dir f/f d/p m/p=/a s/loop=loop")
	for _, who := range []api.Cred{root, other} {
		w.as(who)
		for path, text := range map[string]string{"/a/s": "../x", "/dir/s": "../x", "/p/s": "../x", "/empty": "", "/dir": "a/", "link": "dir", "/loop": "loop"} {
			w.tells(call(api.Readlink, path), api.Result{Data: []byte(text)}, api.Place{})
		}
		for _, path := range []string{"/no", "/no/", "/a/no", "/empty/", "/a/s/"} {
			w.refuses(api.NoEnt, api.Readlink, path)
		}
		for _, path := range []string{"/", ".", "/a", "/f", "/dir/", "/link/", "/p", "/dir/.", "/dir/.."} {
			w.refuses(api.NotSymlink, api.Readlink, path)
		}
		w.refuses(api.NotDir, api.Readlink, "/f/")
		w.refuses(api.Loop, api.Readlink, "/loop/")
	}
}

// R2: neither a name nor a text is kept in the memory that came with the call, and Data is new memory.
func TestNewMemory(t *testing.T) {
	w := made(t, "f/f")
	path, to := []byte("text"), []byte("/link")
	w.does(api.Link2, textIn(path), textIn(to))
	clear(path)
	clear(to)
	first, _ := dirop.Do(w.World, w.Who, call(api.Readlink, "/link"))
	second, _ := dirop.Do(w.World, w.Who, call(api.Readlink, "/link"))
	clear(first.Data[:cap(first.Data)])
	if string(second.Data) != "text" || w.T.Text(w.node("/link")) != "text" {
		t.Errorf("%q, %q", second.Data, w.T.Text(w.node("/link")))
	}
	for _, c := range []api.Call{call(api.Mkdir, "/dir"), call(api.Link, "/f", "/hard"), call(api.Rename, "/f", "/moved")} {
		path, to = []byte(c.Path), []byte(c.To+"\x00")
		c.Path, c.To = textIn(path), textIn(to)[:len(to)-1]
		w.done(c)
		clear(path)
		clear(to)
	}
	first, _ = dirop.Do(w.World, w.Who, call(api.List, "/"))
	clear(first.Names[:cap(first.Names)])
	w.names("/", "dir", "hard", "link", "moved")
}

// textIn answers the bytes as a text that lies in their memory.
func textIn(b []byte) string { return unsafe.String(&b[0], len(b)) }

// R2: what is handed in is not changed.
func TestHandedIn(t *testing.T) {
	for _, c := range all() {
		w := made(t, words)
		data := []byte("data and its spare room")
		c.Data = data[:4]
		dirop.Do(w.World, w.Who, c)
		if string(data) != "data and its spare room" {
			t.Errorf("%s changed its Data to %q", told(c), data)
		}
	}
}
