package dirop_test

import (
	"fmt"
	"testing"

	"warren/api"
)

// P13.1, Rename: what had the one name has the other, and what had that has lost it.
func TestRename(t *testing.T) {
	const words = "d/a d/a/b d/a/b/c f/a/f f/f h/g=/f f/o d/e d/x d/x/y s/s=f s/dir=a s/to=e/new"
	rest := []string{"a", "dir", "e", "f", "g", "o", "s", "to", "x"}
	for _, c := range []struct {
		from, to string
		gone     string // a name of the root's Dir that is no more
		is       string // what is the node that from was
	}{
		{"/f", "/e/f", "f", "/e/f"}, {"/o", "/f", "o", "/f"}, {"/s", "/f", "s", "/f"}, {"/o", "/s", "o", "/s"}, {"/s", "/to", "s", "/to"},
		{"/e", "/a/e", "e", "/a/e"}, {"/e/", "/a/e/", "e", "/a/e"}, {"/x", "/e", "x", "/e"}, {"/x/", "/e/", "x", "/e"}, {"/x", "/dir/b/c", "x", "/a/b/c"}, {"/a", "/e/a", "a", "/e/a"},
		{"/x", "/to/", "x", "/e/new"}, {"/a/b", "/e", "", "/e"}, {"/a/b/c", "/e/", "", "/e"}, {"/dir/b/..//f", "/o", "", "/o"}, {"dir/", "e/d", "a", "/e/d"}, {"/a/./../e/../f", "/x/y/../z", "f", "/x/z"},
		// Of one file's two names both stay, and so does one that is renamed to itself.
		{"/f", "/g", "", "/g"}, {"/g", "/f", "", "/g"}, {"/f", "/f", "", "/f"}, {"/a/b", "/dir/b", "", "/a/b"}, {"/x", "/x/", "", "/x"}, {"/s", "/s", "", "/s"}, {"/x", "/a/../x", "", "/x"},
	} {
		w := made(t, words)
		node := w.find(c.from).At.Node
		w.does(api.Rename, c.from, c.to)
		if got := w.node(c.is); got != node {
			t.Errorf("Rename %s to %s: %s is %d, want %d", c.from, c.to, c.is, got, node)
		}
		var names []string
		for _, s := range rest {
			if s != c.gone {
				names = append(names, s)
			}
		}
		w.names("/", names...)
	}
}

// P13.1, Rename: what is named over is live no more, or has one name less.
func TestRenameOver(t *testing.T) {
	w := made(t, "f/f f/g f/h h/i=/h d/d d/e d/e/x s/s=f")
	g, d, h := w.node("/g"), w.node("/d"), w.node("/h")
	w.does(api.Rename, "/f", "/g")
	w.does(api.Rename, "/e", "/d")
	w.does(api.Rename, "/s", "/i")
	for _, n := range []int{g, d} {
		if _, live := w.T.Stat(n); live {
			t.Errorf("%d is live still", n)
		}
	}
	if st, _ := w.T.Stat(h); st.Links != 1 {
		t.Errorf("Links: %d", st.Links)
	}
	w.names("/", "d", "g", "h", "i")
	w.names("/d", "x")
}

// P13.1, Rename: the walks' refusals come first, Path's ahead of To's, then NoEnt.
func TestRenameWalks(t *testing.T) {
	w := made(t, "d/d f/f s/loop=loop d/dark:766 f/dark/f d/open:777 f/open/f")
	for _, who := range []api.Cred{root, other} {
		w.as(who)
		w.refuses(api.NotDir, api.Rename, "/f/x", "/no/x")
		w.refuses(api.NoEnt, api.Rename, "/no/x", "/f/x")
		w.refuses(api.Loop, api.Rename, "/loop/", "/f/x")
		w.refuses(api.NotDir, api.Rename, "/no", "/f/x")
		w.refuses(api.Loop, api.Rename, "/no", "/loop/x")
		w.refuses(api.Invalid, api.Rename, "/no", "\x00")
		for _, to := range []string{"/", ".", "/f", "/d/", "/new", "/new/", "/no", "/open/new"} {
			w.refuses(api.NoEnt, api.Rename, "/no", to)
			w.refuses(api.NoEnt, api.Rename, "/no/", to)
			w.refuses(api.NoEnt, api.Rename, "/d/no", to)
		}
	}
	w.refuses(api.NoAccess, api.Rename, "/dark/f", "/open/f/x")
	w.refuses(api.NotDir, api.Rename, "/open/f/x", "/dark/f")
	w.refuses(api.NoAccess, api.Rename, "/no", "/dark/f")
}

// P13.1, Rename: no name that is none is taken or given, and a slash asks for a Dir.
func TestRenameNames(t *testing.T) {
	w := made(t, "d/d:777 d/d/in:777 f/d/f:666 s/d/s=in s/d/none=new d/p m/p=/d d/shut f/shut/f")
	for _, who := range []api.Cred{root, other} {
		w.as(who)
		for _, bare := range []string{"/", "//", ".", "..", "/d/.", "/d/in/..", "/p/.", "/p/in/../", "/shut/."} {
			for _, name := range []string{"/d/f", "/d/in", "/p/f", "/shut/f", "/p"} {
				w.refuses(api.MountBusy, api.Rename, bare, name)
				w.refuses(api.MountBusy, api.Rename, name, bare)
			}
			w.refuses(api.MountBusy, api.Rename, bare, "/d/new")
			w.refuses(api.MountBusy, api.Rename, bare, "/shut/new/")
			w.refuses(api.MountBusy, api.Rename, bare, bare)
		}
		for _, to := range []string{"/d/new/", "/d/none/", "/p/new/", "/shut/new/", "/new/"} {
			w.refuses(api.NotDir, api.Rename, "/d/f", to)
			w.refuses(api.NotDir, api.Rename, "/d/s", to)
			w.refuses(api.NotDir, api.Rename, "/p/f", to)
			w.refuses(api.NotDir, api.Rename, "/shut/f", to)
		}
		// These Files have a slash behind them themselves: the walk refuses that.
		w.refuses(api.NotDir, api.Rename, "/d/f/", "/d/new")
		w.refuses(api.NotDir, api.Rename, "/d/in", "/d/f/")
	}
	w.does(api.Rename, "/d/in", "/d/none/")
	w.does(api.Rename, "/d/new/", "/d/in")
	w.names("/d", "f", "in", "none", "s")
}

// P13.1, Rename: what mounts keep, ahead of all rights.
func TestRenameMounts(t *testing.T) {
	w := made(t, "d/a d/a/b d/a/b/x f/a/f d/p m/p=/a d/q d/q/in d/r m/p/b=/q f/ff m/ff=/a/f d/e f/g")
	for _, who := range []api.Cred{root, other} {
		w.as(who)
		for _, c := range []struct{ from, to string }{
			{"/p/f", "/new"}, {"/p/f", "/a/new"}, {"/p/f", "/a/f"}, {"/g", "/p/new"}, {"/g", "/p/f"}, {"/p/b/in", "/p/new"}, {"/p/b/in", "/q/new"}, {"/r", "/p/r/"},
			// Busy, too
			{"/p", "/p/new"}, {"/p/b", "/new"}, {"/a/b", "/p/new"}, {"/g", "/p/b"}, {"/ff", "/p/f"}, {"/r", "/p/b"},
		} {
			w.refuses(api.CrossDev, api.Rename, c.from, c.to)
		}
		for _, c := range []struct{ from, to string }{
			{"/p", "/new"}, {"/p/", "/new/"}, {"/p", "/p"}, {"/p", "/e"}, {"/a/b", "/new"}, {"/a/b", "/a/c"}, {"/p/b", "/p/c"}, {"/a/b", "/a/b"}, {"/a/b", "/a/b/new"}, {"/ff", "/new"}, {"/ff", "/g"},
			{"/g", "/p"}, {"/e", "/p"}, {"/e", "/a/b"}, {"/g", "/a/b"}, {"/p/f", "/p/b"}, {"/g", "/ff"}, {"/e", "/ff"}, {"/a/f", "/p"},
		} {
			w.refuses(api.MountBusy, api.Rename, c.from, c.to)
		}
	}
	// What is a mount's top elsewhere is free, and so are names of one mount that is none of the first.
	w.as(root).does(api.Rename, "/q", "/s")
	w.does(api.Rename, "/p/f", "/p/g")
	w.does(api.Rename, "/a", "/e/a")
	w.does(api.Rename, "/p/b/in", "/p/b/on")
	w.names("/", "e", "ff", "g", "p", "r", "s")
	w.names("/p", "b", "g")
	w.names("/s", "on")
}

// P13.1, Rename: W of both Dirs, then the sticky bits, then W of a Dir that comes to lie elsewhere.
func TestRenameRights(t *testing.T) {
	const words = "d/w:777 f/w/f d/w/d d/w/d/sub:777 d/w/own:700:7:7 f/w/g:644:7:7 d/v:777 f/v/f d/v/e d/v/own:700:7:7 d/shut f/shut/f d/shut/d:777:7:7 f/shut/own:644:7:7 d/st:1777 f/st/f d/st/d d/st/n:777 f/st/own:644:7:7 d/lst:1755 f/lst/f f/lst/own:644:7:7"
	for _, c := range []struct {
		from, to string
		why      api.Errno
	}{
		{"/shut/f", "/w/new", api.NoAccess}, {"/shut/own", "/shut/new", api.NoAccess}, {"/shut/own", "/w/g", api.NoAccess}, {"/w/g", "/shut/new", api.NoAccess}, {"/w/g", "/shut/own", api.NoAccess}, {"/shut/d", "/w/d2", api.NoAccess}, {"/shut/f", "/shut/f", api.NoAccess},
		// a sticky bit, too
		{"/lst/f", "/w/new", api.NoAccess}, {"/w/g", "/lst/f", api.NoAccess}, {"/st/f", "/shut/new", api.NoAccess}, {"/shut/f", "/st/f", api.NoAccess}, {"/st/f", "/lst/new", api.NoAccess},
		{"/st/f", "/w/new", api.NoPerm}, {"/st/f", "/st/new", api.NoPerm}, {"/st/f", "/st/f", api.NoPerm}, {"/w/g", "/st/f", api.NoPerm}, {"/st/own", "/st/f", api.NoPerm}, {"/st/f", "/st/own", api.NoPerm}, {"/st/n", "/w/new", api.NoPerm}, {"/w/own", "/st/n", api.NoPerm},
		// a Dir without W, too
		{"/st/d", "/w/new", api.NoPerm}, {"/w/d", "/st/n", api.NoPerm}, {"/w/d", "/st/f", api.NoPerm}, {"/w/own", "/st/f", api.NoPerm},
		{"/w/d", "/v/new", api.NoAccess}, {"/w/d", "/st/new", api.NoAccess},
		// tree.Move's refusals, too
		{"/w/d", "/v/f", api.NoAccess}, {"/w/d", "/v/e", api.NoAccess}, {"/w/d", "/w/d/sub/new", api.NoAccess},
		{"/w/own", "/v/f", api.NotDir}, {"/w/f", "/v/e", api.IsDir}, {"/w/own", "/w/own/new", api.Invalid}, {"/v/own", "/w/d", api.NotEmpty}, {"/w/own", "/w/d", api.NotEmpty}, {"/w/own", "/w/f", api.NotDir},
	} {
		made(t, words).as(other).refuses(c.why, api.Rename, c.from, c.to)
	}
	for _, c := range []struct{ from, to string }{
		{"/w/f", "/v/new"}, {"/w/f", "/v/f"}, {"/w/d", "/w/new"}, {"/w/own", "/v/new"}, {"/w/own", "/v/own"}, {"/w/d", "/w/own"}, {"/st/own", "/w/new"}, {"/w/g", "/st/own"}, {"/w/own", "/st/new"}, {"/w/own", "/v/e"}, {"/w/d", "/w/d"},
	} {
		made(t, words).as(other).does(api.Rename, c.from, c.to)
	}
	w := made(t, words)
	for _, c := range []struct{ from, to string }{
		{"/w/d", "/v/d"}, {"/st/f", "/lst/f"}, {"/shut/f", "/st/f"}, {"/st/d", "/shut/e"}, {"/shut", "/w/shut"},
	} {
		w.does(api.Rename, c.from, c.to)
	}
}

// P13.1, Rename: what tree.Move refuses.
func TestRenameMoves(t *testing.T) {
	w := made(t, "d/a d/a/b d/a/b/c f/f s/s=a d/e d/full d/in:777")
	for _, c := range []struct {
		from, to string
		why      api.Errno
	}{
		{"/a", "/a/x", api.Invalid}, {"/a", "/a/b", api.Invalid}, {"/a", "/a/b/c", api.Invalid}, {"/a", "/a/b/c/x", api.Invalid}, {"/a/b", "/a/b/c", api.Invalid}, {"/a/", "/s/x", api.Invalid}, {"/s/", "/a/b/x/", api.Invalid},
		{"/e", "/f", api.NotDir}, {"/e", "/s", api.NotDir}, {"/f", "/e", api.IsDir}, {"/s", "/e", api.IsDir}, {"/f", "/a", api.IsDir}, {"/e", "/a", api.NotEmpty}, {"/e", "/a/b", api.NotEmpty}, {"/a/b/c", "/a/b", api.NotEmpty}, {"/e", "/s/", api.NotEmpty},
		{"/f", "/e/", api.IsDir},
	} {
		w.refuses(c.why, api.Rename, c.from, c.to)
	}
	for n := range api.MaxLinks - 2 {
		w.add(fmt.Sprint("d/full/", n))
	}
	w.refuses(api.ManyLinks, api.Rename, "/e", "/full/e")
	w.as(other).refuses(api.NoAccess, api.Rename, "/e", "/full/e")
	w.as(root).does(api.Rename, "/f", "/full/f")
	w.does(api.Rename, "/full/0", "/full/x")
	w.does(api.Rename, "/e", "/full/x")
	w.into("/in")
	w.refuses(api.NoEnt, api.Rename, "/full/f", "new")
	w.refuses(api.NoEnt, api.Rename, "/a", "./new")
	w.as(other).refuses(api.NoAccess, api.Rename, "/a", "new")
}
