package model_test

import (
	"fmt"
	"testing"

	"warren/api"
)

// P15.2, Chdir: where paths begin then, of the one process; it tells nothing.
func TestChdir(t *testing.T) {
	w := made(t, mkdir("/a"), mkdir("/a/b"), symlink("a/b", "/s"))
	w.silent(ann, chdir("/a"))
	where := func(proc, node int) {
		t.Helper()
		if got := w.m.Do(proc, info(".")).Stat.Node; got != node {
			t.Errorf("%d stands in %d, want %d", proc, got, node)
		}
	}
	where(ann, 2)
	where(root, 1)
	where(bob, 1)
	w.silent(ann, chdir("b"))
	where(ann, 3)
	w.silent(ann, chdir("."), chdir("../b/"))
	where(ann, 3)
	w.silent(ann, chdir(".."), chdir("/s"))
	where(ann, 3)
	w.silent(root, chdir("s"))
	where(root, 3)
	w.silent(root, mkdir("in"))
	w.answers(bob, list("/a/b"), api.Result{Names: []string{"in"}})
	w.silent(ann, chdir("/../.."))
	where(ann, 1)
}

// P15.2, Chdir: what is refused leaves the process where it stands.
func TestChdirRefused(t *testing.T) {
	w := made(t, mkdir("/a"), mkdir("/a/b"), chmod("/a/b", 0o666), open("/f", rd|mk), symlink("l", "/l"), mkdir("/x"), chmod("/x", 0o700))
	w.silent(ann, chdir("/a"))
	for _, c := range []struct {
		path string
		want api.Errno
	}{{"", api.NoEnt}, {"no", api.NoEnt}, {"/no/no", api.NoEnt}, {"/f", api.NotDir}, {"/f/", api.NotDir}, {"b", api.NoAccess}, {"/x", api.NoAccess}, {"/l", api.Loop}, {"\x00", api.Invalid}} {
		w.refuses(ann, c.want, chdir(c.path))
		if got := w.m.Do(ann, info(".")).Stat.Node; got != 2 {
			t.Errorf("behind %q it stands in %d", c.path, got)
		}
	}
	w.silent(root, chdir("/a/b"), chdir("/x"))
}

// P15.2, P15.5: a Dir is live as long as a process stands there, and no longer.
func TestCwdIsHeld(t *testing.T) {
	w := made(t, mkdir("/a"), mkdir("/a/b"))
	w.silent(ann, chdir("/a/b"))
	w.silent(bob, chdir("/a/b"))
	w.silent(bob, chdir("."), chdir("/a/b"))
	w.silent(root, rmdir("/a/b"))
	w.counts([]int{1, 2, 3}, 0, 0)
	w.answers(ann, info("."), api.Result{Stat: api.Stat{Node: 3, Kind: api.Dir, Mode: 0o755}})
	w.answers(ann, info(".."), api.Result{Stat: api.Stat{Node: 3, Kind: api.Dir, Mode: 0o755}})
	w.answers(ann, list("."), api.Result{})
	w.silent(root, mkdir("/a/b"))
	w.counts([]int{1, 2, 3, 4}, 0, 0)
	w.silent(ann, chdir("."))
	w.silent(bob, chdir("/a/b"))
	w.counts([]int{1, 2, 3, 4}, 0, 0)
	w.refuses(ann, api.NoEnt, chdir("no"), chdir("../no"))
	w.counts([]int{1, 2, 3, 4}, 0, 0)
	w.silent(ann, chdir("/"))
	w.counts([]int{1, 2, 4}, 0, 0)
	w.silent(bob, chdir("/a"))
	w.silent(root, rmdir("/a/b"))
	w.counts([]int{1, 2}, 0, 0)
	w.silent(root, rmdir("/a"))
	w.counts([]int{1, 2}, 0, 0)
	w.silent(bob, chdir("/"))
	w.counts([]int{1}, 0, 0)
}

// P15.2: the root stays, whoever leaves it and comes back.
func TestRootStays(t *testing.T) {
	w := made(t, mkdir("/a"))
	for range 3 {
		for proc := range nobody {
			w.silent(proc, chdir("/a"))
		}
		for proc := range nobody {
			w.silent(proc, chdir(".."), chdir("/"))
		}
	}
	w.counts([]int{1, 2}, 0, 0)
	w.silent(root, rmdir("/a"))
	w.counts([]int{1}, 0, 0)
}

// P15.2, P15.5: a File is live as long as it has a name or a descriptor, and no longer; its blocks are free then.
func TestFileIsHeld(t *testing.T) {
	w := made(t, open("/f", both|mk), write(0, noughts(33)), link("/f", "/g"))
	w.opens(ann, "/f", rd, 0)
	w.opens(root, "/g", rd, 1)
	w.silent(root, unlink("/f"))
	w.counts([]int{1, 2}, 3, 3)
	w.silent(root, shut(0), unlink("/g"))
	w.counts([]int{1, 2}, 3, 2)
	w.silent(root, shut(1))
	w.counts([]int{1, 2}, 3, 1)
	w.reads(ann, 0, 99, noughts(33))
	w.silent(ann, shut(0))
	w.counts([]int{1}, 0, 0)

	// The name is the last that keeps it.
	w = made(t, open("/f", both|mk), write(0, "x"), shut(0))
	w.counts([]int{1, 2}, 1, 0)
	w.silent(root, unlink("/f"))
	w.counts([]int{1}, 0, 0)

	// Another one takes its name.
	w = made(t, open("/f", both|mk), write(0, "old"), open("/g", wr|mk), write(1, "new"), seek(0, 0, 0))
	w.silent(root, rename("/g", "/f"))
	w.counts([]int{1, 2, 3}, 2, 2)
	w.reads(root, 0, 9, "old")
	w.silent(root, shut(0))
	w.counts([]int{1, 3}, 1, 1)
}

// P15.2: the blocks of what nobody has are there for others.
func TestBlocksAreFree(t *testing.T) {
	w := sized(t, api.Config{Nodes: 3, Blocks: 2, Files: 9}, people())
	for range 5 {
		w.does(root, open("/f", both|mk), open("/g", both|mk), write(0, noughts(32)), unlink("/f"))
		w.refuses(root, api.NoSpace, write(1, "x"), open("/h", rd|mk))
		w.does(root, shut(0))
		w.does(root, write(1, noughts(20)), truncate("/g", 16), open("/h", rd|wr|mk), write(0, "x"))
		w.refuses(root, api.NoSpace, write(1, "x"))
		w.does(root, shut(0), shut(1), unlink("/g"), unlink("/h"))
		if len(w.m.Live()) != 1 || w.m.Blocks() != 0 || w.m.Open() != 0 {
			t.Error("something is left")
		}
	}
}

// P15.2, P15.5: a Dir that is open is live as long as that, and no longer.
func TestOpenDirIsHeld(t *testing.T) {
	w := made(t, mkdir("/d"), open("/d", rd), open("/d", rd))
	w.silent(root, rmdir("/d"), shut(0))
	w.counts([]int{1, 2}, 0, 1)
	w.silent(root, shut(1))
	w.counts([]int{1}, 0, 0)
}

// P15.5: what a mount lies at, and what is at its top, are live as long as it is there, and no longer.
func TestMountHolds(t *testing.T) {
	w := made(t, mkdir("/a"), mkdir("/m"), bind("/a", "/m"), rmdir("/a"))
	w.counts([]int{1, 2, 3}, 0, 0)
	w.refuses(root, api.NoEnt, mkdir("/m/x"), open("/m/x", rd|mk))
	w.refuses(root, api.MountBusy, rmdir("/m"))
	w.silent(root, unbind("/m"))
	w.counts([]int{1, 3}, 0, 0)
	w.silent(root, rmdir("/m"))
	w.counts([]int{1}, 0, 0)
}

// P15.2, Unbind: MountBusy as long as a process stands at a place of the mount, its top or another one, whoever it is.
func TestUnbindCwd(t *testing.T) {
	for proc := range nobody {
		for _, path := range []string{"/m", "/m/in", "/m/in/.."} {
			w := made(t, mkdir("/a"), mkdir("/a/in"), mkdir("/m"), bind("/a", "/m"))
			w.silent(proc, chdir(path))
			w.refuses(root, api.MountBusy, unbind("/m"), unbind("/m/"), unbind("/m/in/.."))
			w.silent(proc, chdir("/a"))
			w.silent(root, unbind("/m"))
			w.refuses(root, api.Invalid, unbind("/m"))
		}
		for _, path := range []string{"/", "/a", "/a/in", "/n", "/n/in"} { // the same nodes, under other mounts
			w := made(t, mkdir("/a"), mkdir("/a/in"), mkdir("/m"), mkdir("/n"), bind("/a", "/n"), bind("/a", "/m"))
			w.silent(proc, chdir(path))
			w.silent(root, unbind("/m"))
		}
	}
}

// P15.2, Unbind: MountBusy as long as a file is open at a place of the mount, whoever has it.
func TestUnbindOpen(t *testing.T) {
	for proc := range nobody {
		for _, path := range []string{"/m", "/m/in", "/m/f", "/m/in/../f"} {
			w := made(t, mkdir("/a"), mkdir("/a/in"), open("/a/f", rd|mk), shut(0), mkdir("/m"), bind("/a", "/m"))
			w.opens(proc, path, rd, 0)
			w.opens(proc, path, rd, 1)
			w.silent(proc, shut(0))
			w.refuses(root, api.MountBusy, unbind("/m"))
			w.silent(proc, shut(1))
			w.silent(root, unbind("/m"))
		}
		for _, path := range []string{"/", "/a", "/a/f", "/n/f"} {
			w := made(t, mkdir("/a"), open("/a/f", rd|mk), shut(0), mkdir("/m"), mkdir("/n"), bind("/a", "/n"), bind("/a", "/m"))
			w.opens(proc, path, rd, 0)
			w.silent(root, unbind("/m"))
		}
	}
}

// P15.2, Unbind: an open file keeps its mount busy, also if it has no name any more.
func TestUnbindUnlinked(t *testing.T) {
	w := made(t, mkdir("/a"), mkdir("/m"), bind("/a", "/m"), open("/m/f", wr|mk), unlink("/a/f"))
	w.refuses(root, api.MountBusy, unbind("/m"))
	w.writes(root, 0, "x")
	w.counts([]int{1, 2, 3, 4}, 1, 1)
	w.silent(root, shut(0), unbind("/m"))
	w.counts([]int{1, 2, 3}, 0, 0)
}

// P15.2, Unbind: what dirop refuses ahead of that is told first: NoPerm, the walk's, NoEnt, Invalid; of two reasons for MountBusy either.
func TestUnbindOrder(t *testing.T) {
	w := made(t, mkdir("/a"), mkdir("/a/in"), open("/a/f", rd|mk), shut(0), mkdir("/m"), mkdir("/n"), bind("/a", "/m"), chdir("/m/in"))
	w.opens(ann, "/m/f", rd, 0)
	w.refuses(ann, api.NoPerm, unbind("/m"), unbind("/m/no"), unbind(""), unbind("/"), unbind("/m/in"))
	w.refuses(root, api.NoEnt, unbind(""), unbind("/m/no"), unbind("/m/no/no"), unbind("no"))
	w.refuses(root, api.NotDir, unbind("/m/f/"), unbind("/m/f/x"))
	w.refuses(root, api.Invalid, unbind("/"), unbind("."), unbind("/m/in"), unbind("/m/f"), unbind("/a"), unbind("/n"), unbind("\x00"))
	w.refuses(root, api.MountBusy, unbind("/m"), unbind(".."))
	w.does(root, bind("/n", "/m/in"))
	w.refuses(root, api.MountBusy, unbind("/m"))
	w.silent(root, chdir("/"))
	w.silent(ann, shut(0))
	w.refuses(root, api.MountBusy, unbind("/m")) // for the one above it alone
	w.silent(root, unbind("/m/in"), unbind("/m"))
}

// P15.2, Unbind: the mount is meant that Path comes to by Symlinks, too.
func TestUnbindBySymlink(t *testing.T) {
	w := made(t, mkdir("/a"), mkdir("/m"), symlink("m", "/s"), symlink("/s", "/m/s"), bind("/a", "/m"), symlink("/s", "/a/t"))
	w.silent(ann, chdir("/s"))
	w.refuses(root, api.MountBusy, unbind("/s"), unbind("/m/t"), unbind("s/"))
	w.silent(ann, chdir("/"))
	w.silent(root, unbind("/m/t"))
	w.refuses(root, api.Invalid, unbind("/s"))
}

// P15.5: who stands in a Dir over which a mount is laid then has it for himself, when the mount is gone.
func TestCwdUnderMount(t *testing.T) {
	for _, copied := range []bool{false, true} {
		w := made(t, mkdir("/a"), mkdir("/m"))
		w.silent(ann, chdir("/m"))
		w.silent(root, bind("/a", "/m"))
		if copied {
			w.m = w.m.Copy()
		}
		w.refuses(root, api.MountBusy, rmdir("/m"))
		w.silent(root, unbind("/m"), rmdir("/m"))
		w.counts([]int{1, 2, 3}, 0, 0)
		w.answers(ann, info("."), api.Result{Stat: api.Stat{Node: 3, Kind: api.Dir, Mode: 0o755}})
		w.silent(ann, chdir("/"))
		w.counts([]int{1, 2}, 0, 0)
	}
}

// P15.2, Unbind: what lies over the top of another mount goes first, and keeps nobody busy who is below it.
func TestUnbindOverAnother(t *testing.T) {
	w := made(t, mkdir("/a"), mkdir("/b"), mkdir("/m"), bind("/a", "/m"))
	w.silent(ann, chdir("/m"))
	w.silent(root, bind("/b", "/m"))
	w.silent(bob, chdir("/m"))
	w.refuses(root, api.MountBusy, unbind("/m"))
	w.silent(bob, chdir("/"))
	w.silent(root, unbind("/m"))
	w.refuses(root, api.MountBusy, unbind("/m"))
	w.silent(ann, chdir("/"))
	w.silent(root, unbind("/m"))
	w.refuses(root, api.Invalid, unbind("/m"))
}

// P15.2: a mount over the root is what all paths begin at, also those of processes that stand at the root.
func TestBindOverRoot(t *testing.T) {
	w := made(t, mkdir("/a"), mkdir("/a/b"), bind("/a", "/"))
	w.answers(ann, list("/"), api.Result{Names: []string{"b"}})
	w.answers(ann, list("."), api.Result{Names: []string{"b"}})
	w.silent(ann, chdir("/"))
	w.refuses(root, api.MountBusy, unbind("/"))
	w.silent(ann, chdir("b"))
	w.refuses(root, api.MountBusy, unbind("/"))
	w.silent(ann, chdir(".."))
	w.opens(root, "f", rd|mk, 0)
	w.refuses(root, api.MountBusy, unbind("/"))
	w.silent(root, shut(0))
	w.refuses(root, api.MountBusy, unbind("/"))
}

// P15.5: of what came and went nothing is left, whatever keeps it between.
func TestNothingIsLeft(t *testing.T) {
	ways := [][]api.Call{
		{mkdir("/d"), rmdir("/d")},
		{mkdir("/d"), chdir("/d"), rmdir("/d"), chdir("/")},
		{open("/f", wr|mk), write(0, "abc"), unlink("/f"), shut(0)},
		{open("/f", wr|mk), write(0, "abc"), shut(0), unlink("/f")},
		{symlink("x", "/s"), unlink("/s")},
		{open("/f", wr|mk), write(0, "abc"), open("/f", wr|ct), shut(0), shut(1), unlink("/f")},
		{open("/f", wr|mk), write(0, noughts(99)), link("/f", "/g"), rename("/g", "/h"), unlink("/f"), truncate("/h", 50), unlink("/h"), shut(0)},
		{mkdir("/a"), mkdir("/b"), bind("/a", "/b"), chdir("/b"), open("f", wr|mk), write(0, "x"), shut(0), unlink("/a/f"), rmdir("/a"), chdir("/"), unbind("/b"), rmdir("/b")},
		{mkdir("/a"), mkdir("/a/b"), chdir("/a/b"), rename("/a/b", "/b"), open(".", rd), rmdir("/a"), rmdir("/b"), shut(0), chdir("/")},
		{mkdir("/a"), mkdir("/b"), chdir("/b"), rename("/a", "/b"), chdir("/"), rmdir("/b")},
	}
	w := made(t)
	for i, calls := range ways {
		w.does(root, calls...)
		if got := fmt.Sprint(w.m.Live(), w.m.Blocks(), w.m.Open()); got != "[1] 0 0" {
			t.Errorf("behind way %d: %s", i, got)
		}
	}
}
