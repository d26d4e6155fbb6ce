package model_test

import (
	"fmt"
	"math"
	"strings"
	"testing"

	"warren/api"
)

// fill lets the process have as many files open as it may.
func (w *world) fill(proc int) {
	w.t.Helper()
	for fd := range api.MaxFiles {
		w.opens(proc, "/", rd, fd)
	}
}

// P15.2, Open: flags that may not be, or do not go together, wherever the path leads.
func TestOpenFlags(t *testing.T) {
	w := made(t, open("/f", both|mk), mkdir("/d"), symlink("f", "/s"))
	bad := []int{
		0, 256, 256 | rd, 257 | wr, 511, 512 | both, -1, -255, -256 | rd, math.MinInt, math.MinInt | both, math.MaxInt, // not 1 to 255
		mk, nw, mk | nw, ap, nf, od, mk | nw | ap | nf, 255 &^ both, // for nothing
		rd | ct, rd | ct | mk, rd | ct | ap, ct, // a cut without right
		rd | od | mk, both | od | mk, rd | od | mk | nw, wr | od | mk | ct, 255, // a Dir that is made
	}
	for _, flags := range bad {
		for proc := range nobody {
			for _, path := range []string{"/f", "/d", "/s", "/no", "/no/", "/no/no", "/f/x", "", "\x00", strings.Repeat("/", api.MaxPath+1)} {
				w.refuses(proc, api.Invalid, open(path, flags))
			}
		}
	}
	good := []int{rd, wr, both, both | ct, wr | ap, wr | ct | ap, rd | ap, rd | nf, rd | nw, both | mk | ct | ap | nf, 255 &^ (od | nw), 255 &^ (mk | od)}
	for _, flags := range good {
		w.opens(root, "/f", flags, 1)
		w.silent(root, shut(1))
	}
	w.opens(root, "/d", rd|od, 1)
	w.opens(root, "/d", rd|od|nf|ap|nw, 2)
	w.opens(root, "/new", 255&^od, 3)
}

// P15.2, Open: of a path that comes to nothing a File is made, if that is asked for, with nine bits of Mode, by who calls.
func TestOpenMakes(t *testing.T) {
	w := made(t, mkdir("/w"), chmod("/w", 0o777))
	for i, c := range []struct{ mode, want int }{{0, 0}, {0o777, 0o777}, {0o7777, 0o777}, {0o1640, 0o640}, {-1, 0o777}, {math.MinInt, 0}, {math.MaxInt, 0o777}, {0o1000, 0}} {
		for proc := range nobody {
			path := fmt.Sprintf("/w/%d.%d", i, proc)
			cred := people()[proc]
			w.answers(proc, api.Call{Op: api.Open, Path: path, Flags: both | mk, Mode: c.mode, Fd: 99, N: -1, M: 99, Data: []byte("not asked")}, api.Result{N: 0})
			st := w.stat(path)
			if want := (api.Stat{Node: st.Node, Kind: api.File, Mode: c.want, Uid: cred.Uid, Gid: cred.Gid, Links: 1}); st != want {
				t.Errorf("made %+v, want %+v", st, want)
			}
			// Its own mode did not keep it from being opened, and does not keep it from being used.
			w.writes(proc, 0, "abc")
			w.seeks(proc, 0, 0, 0, 0)
			w.reads(proc, 0, 9, "abc")
			w.silent(proc, shut(0), unlink(path))
		}
	}
	w.counts([]int{1, 2}, 0, 0)
	w.opens(ann, "/w/f", rd|mk|nw, 0)
	w.opens(ann, "/w/f", rd|mk, 1)
	w.opens(bob, "w/./../w/f", rd|mk, 0)
	w.opens(ann, "/w/g", wr|mk|ct|ap|nf, 2)
	w.answers(ann, list("/w"), api.Result{Names: []string{"f", "g"}})
}

// P15.2, Open: the lowest descriptor that is free, of each process by itself; it begins at 0.
func TestOpenDescriptors(t *testing.T) {
	w := made(t, open("/f", both|mk), write(0, "abc"))
	w.opens(root, "/f", rd, 1)
	w.at(root, 1, 0)
	w.opens(ann, "/f", rd, 0)
	w.opens(root, "/f", rd, 2)
	w.silent(root, shut(1), shut(0))
	w.opens(root, "/f", rd, 0)
	w.at(root, 0, 0)
	w.opens(root, "/f", rd, 1)
	w.opens(root, "/f", rd, 3)
	w.reads(root, 3, 2, "ab")
	w.reads(root, 0, 1, "a")
	w.at(root, 3, 2)
	w.at(root, 2, 0)
	w.counts([]int{1, 2}, 1, 5)
}

// P15.2, Open: Room comes behind the flags, and ahead of the path: TooMany, then TableFull.
func TestOpenRoom(t *testing.T) {
	anything := []api.Call{
		open("/f", rd), open("/f", rd|mk|nw), open("/f/", rd), open("/f", rd|od), open("/d", wr), open("/s", rd|nf), open("/no", rd), open("/no/", rd|mk), open("/new", wr|mk), open("/no/no", rd|mk),
		open("", rd), open("\x00", rd), open("/"+strings.Repeat("x", api.MaxName+1), rd), open("/f/x", rd), open("/l", rd), open("/d/x", rd|mk),
	}
	start := []api.Call{open("/f", rd|mk), shut(0), mkdir("/d"), chmod("/d", 0), chmod("/f", 0), symlink("f", "/s"), symlink("l", "/l")}
	w := sized(t, api.Config{Nodes: 5, Blocks: 0, Files: api.MaxFiles + 1}, people())
	w.does(root, start...)
	for _, proc := range []int{root, ann} {
		w.fill(proc)
		w.refuses(proc, api.TooMany, anything...)
		w.refuses(proc, api.Invalid, open("/f", 0), open("/f", 256), open("/f", rd|ct), open("", rd|od|mk))
		w.opens(bob, "/", rd, 0)
		// Both do not let it: its own number is told.
		w.refuses(proc, api.TooMany, anything...)
		w.refuses(bob, api.TableFull, anything...)
		w.refuses(carl, api.TableFull, anything...)
		w.refuses(bob, api.Invalid, open("/f", 0), open("/f", 256), open("/f", rd|ct), open("", rd|od|mk))
		w.silent(bob, shut(0))
		for fd := range api.MaxFiles {
			w.silent(proc, shut(fd))
		}
	}
}

// P15.2, Open: what the walk refuses comes behind Room, and ahead of what is asked of what it comes to.
func TestOpenWalks(t *testing.T) {
	w := made(t, open("/f", both|mk), shut(0), mkdir("/d"), mkdir("/d/in"), chmod("/d", 0o700), symlink("l", "/l"))
	long := "/" + strings.Repeat("x", api.MaxName+1)
	for _, flags := range []int{rd, wr, both, rd | mk, rd | nf, rd | mk | nw, both | mk | ct, wr | ap} {
		for proc := range nobody {
			w.refuses(proc, api.NoEnt, open("", flags), open("/no/x", flags), open("no/../x", flags))
			w.refuses(proc, api.Invalid, open("/f\x00", flags))
			w.refuses(proc, api.NameLong, open(long, flags), open(strings.Repeat("/", api.MaxPath+1), flags))
			w.refuses(proc, api.NotDir, open("/f/x", flags), open("/f/", flags), open("/f/.", flags))
			w.refuses(proc, api.Loop, open("/l/x", flags), open("/l/", flags))
		}
		w.refuses(ann, api.NoAccess, open("/d/in", flags), open("/d/no", flags), open("/d/no/", flags), open("/d/.", flags), open("/d/in/no/x", flags))
	}
	w.refuses(ann, api.NotDir, open("/f/", rd|od), open("/f/", rd|mk|nw))
	w.refuses(ann, api.Loop, open("/l", rd), open("/l", rd|mk), open("/l", rd|nw))
	w.refuses(ann, api.NoAccess, open("d/../f", rd))
	w.opens(ann, "..//./f", rd, 0)
}

// P15.2, Open: paths that do not begin with a slash begin where the process stands.
func TestOpenFromCwd(t *testing.T) {
	w := made(t, mkdir("/d"), mkdir("/d/e"), chmod("/d", 0o777))
	w.silent(ann, chdir("/d"))
	w.opens(ann, "f", wr|mk, 0)
	w.opens(ann, "e/../g", wr|mk, 1)
	w.opens(root, "d/f", rd, 0)
	w.refuses(root, api.NoEnt, open("f", rd))
	w.answers(root, list("/d"), api.Result{Names: []string{"e", "f", "g"}})
}

// P15.2, Open: a Symlink at the path's end is followed, unless NoFollow, or Make and New, are asked for.
func TestOpenFollows(t *testing.T) {
	start := []api.Call{open("/f", both|mk), write(0, "abc"), shut(0), symlink("f", "/s"), symlink("new", "/t"), mkdir("/d"), symlink("d", "/sd"), symlink("x/", "/sx"), symlink("s", "/ss")}
	w := made(t, start...)
	for fd, c := range []api.Call{open("/s", rd), open("/s", rd|nw), open("/s", both|mk), open("/ss", rd), open("/sd", rd), open("/sd", rd|od), open("/sd/", rd|nf)} {
		w.answers(root, c, api.Result{N: fd})
	}
	w.reads(root, 0, 9, "abc")
	w.refuses(root, api.Loop, open("/s", rd|nf), open("/t", rd|nf), open("/t", both|mk|nf), open("/sd", rd|nf|od), open("/ss", rd|nf|nw))
	w.refuses(root, api.Exists, open("/s", rd|mk|nw), open("/t", rd|mk|nw), open("/sd", rd|mk|nw), open("/s", rd|mk|nw|nf))
	w.refuses(root, api.NoEnt, open("/t", rd), open("/t", rd|nw), open("/sx", rd))
	w.refuses(root, api.IsDir, open("/sx", rd|mk))
	w.opens(root, "/t", wr|mk, 7)
	w.writes(root, 7, "made")
	if st := w.stat("/new"); st.Kind != api.File || st.Size != 4 {
		t.Errorf("made %+v", st)
	}
	w.silent(root, shut(0))
	w.refuses(root, api.Exists, open("/sd/", rd|mk|nw)) // the Slash lets it be followed
}

// P15.2, Open, of a path that comes to nothing: NoEnt without Make, IsDir with a slash, NoAccess without W on the Dir, what tree.Make refuses; of each two that meet the former.
func TestOpenMissing(t *testing.T) {
	for _, full := range []bool{false, true} {
		for _, proc := range []int{root, ann} {
			nodes := api.MaxNodes
			if full {
				nodes = 4
			}
			w := sized(t, api.Config{Nodes: nodes, Blocks: 0, Files: 9}, people())
			w.does(root, mkdir("/w"), chmod("/w", 0o777), mkdir("/r"), mkdir("/w/gone"), chmod("/w/gone", 0o777))
			w.does(proc, chdir("/w/gone"))
			w.does(root, rmdir("/w/gone"))
			w.refuses(proc, api.NoEnt, open("/w/x", rd), open("/w/x/", wr), open("/r/x", both), open("/r/x/", rd), open("x", rd), open("x/", rd), open("x", rd|nw), open("x", rd|od))
			w.refuses(proc, api.IsDir, open("/w/x/", rd|mk), open("/r/x/", wr|mk), open("x/", rd|mk), open("x/", rd|mk|nw))
			w.refuses(proc, api.NoEnt, open("x", rd|mk), open("x", wr|mk|nw))
			if proc == ann {
				w.refuses(ann, api.NoAccess, open("/r/x", rd|mk), open("/x", wr|mk|nw))
			}
			want := api.NoSpace
			if !full {
				want = api.OK
			}
			if got := w.m.Do(proc, open("/w/x", rd|mk)).Why; got != want {
				t.Errorf("full %v, by %d: %v", full, proc, got)
			}
		}
	}
}

// P15.2, Open: NoAccess comes ahead of a Dir without a name, and that ahead of NoSpace.
func TestOpenMissingInGone(t *testing.T) {
	w := sized(t, api.Config{Nodes: 2, Blocks: 0, Files: 9}, people())
	w.does(root, mkdir("/d"), chdir("/d"))
	w.does(ann, chdir("/d"))
	w.does(root, rmdir("/d"))
	w.refuses(ann, api.NoAccess, open("x", rd|mk))
	w.refuses(ann, api.IsDir, open("x/", rd|mk))
	w.refuses(root, api.NoEnt, open("x", rd|mk))
	w.refuses(root, api.NoSpace, open("/x", rd|mk))
	w.refuses(root, api.IsDir, open("/x/", rd|mk))
	w.refuses(ann, api.NoAccess, open("/x", rd|mk))
}

// P15.2, Open, of what is there: Exists, Loop, NotDir, IsDir, NoAccess; of each two that meet the former.
func TestOpenThere(t *testing.T) {
	w := made(t, open("/f", both|mk), shut(0), chmod("/f", 0), mkdir("/d"), chmod("/d", 0), symlink("f", "/s"), symlink("d", "/sd"))
	for _, proc := range []int{root, ann} {
		w.refuses(proc, api.Exists, open("/f", rd|mk|nw), open("/f", both|mk|nw|ct), open("/d", rd|mk|nw), open("/d", wr|mk|nw), open("/d/", rd|mk|nw), open("/s", rd|mk|nw), open("/s", rd|mk|nw|nf), open("/", rd|mk|nw), open(".", wr|mk|nw), open("..", wr|mk|nw))
		w.refuses(proc, api.Loop, open("/s", rd|nf), open("/s", wr|nf), open("/s", rd|nf|od), open("/s", rd|nf|mk), open("/sd", wr|nf))
		w.refuses(proc, api.NotDir, open("/f", rd|od), open("/f", wr|od), open("/s", both|od), open("/f", wr|od|ct))
		w.refuses(proc, api.IsDir, open("/d", wr), open("/d", both), open("/d", rd|mk), open("/d", both|mk), open("/d", wr|od), open("/sd", wr), open("/d", wr|ct), open("/", rd|mk), open(".", wr))
	}
	w.refuses(ann, api.NoAccess, open("/f", rd), open("/f", wr), open("/f", both), open("/f", wr|ct), open("/f", rd|mk), open("/f", rd|nw), open("/d", rd), open("/d", rd|od), open("/s", rd), open("/sd", rd|od))
	w.opens(root, "/f", both, 0)
	w.opens(root, "/f", both|mk, 1)
	w.opens(root, "/d", rd, 2)
	w.opens(root, "/d", rd|od, 3)
	w.opens(root, "/d", rd|nw, 4)
}

// P15.2, Open: R is asked of ForRead and W of ForWrite, both of both, each class by its own bits.
func TestOpenRights(t *testing.T) {
	w := made(t, open("/f", both|mk), shut(0), chown("/f", 5, 5))
	for mode := range 0o1000 {
		w.does(root, chmod("/f", mode))
		for proc, shift := range map[int]int{ann: 6, bob: 3, carl: 0} {
			for flags, need := range map[int]int{rd: 4, wr: 2, both: 6, rd | ap: 4, wr | ct: 2, both | mk: 6, rd | mk: 4} {
				got, want := w.m.Do(proc, open("/f", flags)), api.OK
				if mode>>shift&need != need {
					want = api.NoAccess
				}
				if !same(got, api.Result{Why: want}) {
					t.Errorf("mode %o by %d with %d: %+v", mode, proc, flags, got)
				}
				if want == api.OK {
					w.does(proc, shut(0))
				}
			}
		}
	}
	w.does(root, chmod("/f", 0))
	w.opens(root, "/f", both, 0)
}

// P15.2, Open: rights are asked when it is opened, not later, and Append alone lets nobody write.
func TestOpenRightsLater(t *testing.T) {
	w := made(t, open("/f", both|mk), shut(0), chmod("/f", 0o666))
	w.opens(ann, "/f", both, 0)
	w.opens(ann, "/f", rd|ap, 1)
	w.does(root, chmod("/f", 0))
	w.writes(ann, 0, "still")
	w.seeks(ann, 0, 0, 0, 0)
	w.reads(ann, 0, 9, "still")
	w.refuses(ann, api.BadFd, write(1, "x"))
	w.refuses(ann, api.NoAccess, open("/f", rd))
}

// P15.2, Open: with Cut the File is cut to 0, and its blocks are free; not if the call is refused, and not without Cut.
func TestOpenCuts(t *testing.T) {
	w := made(t, open("/f", both|mk), write(0, noughts(40)), chmod("/f", 0o644))
	w.counts([]int{1, 2}, 3, 1)
	w.refuses(ann, api.NoAccess, open("/f", wr|ct), open("/f", both|ct))
	w.refuses(root, api.Exists, open("/f", wr|ct|mk|nw))
	w.refuses(root, api.NotDir, open("/f", wr|ct|od))
	w.opens(root, "/f", wr, 1)
	w.opens(root, "/f", both|mk|ap, 2)
	w.counts([]int{1, 2}, 3, 3)
	w.opens(root, "/f", wr|ct, 3)
	w.counts([]int{1, 2}, 0, 4)
	if st := w.stat("/f"); st.Size != 0 {
		t.Errorf("it has %d bytes", st.Size)
	}
	w.at(root, 0, 40) // another descriptor stays where it is
	w.reads(root, 0, 9, "")
	w.opens(root, "/g", wr|mk|ct, 4)
	w.counts([]int{1, 2, 3}, 0, 5)
}

// P15.2, Open: a place is under the mount by which it was come to.
func TestOpenThroughMounts(t *testing.T) {
	w := made(t, mkdir("/a"), mkdir("/m"), bind("/a", "/m"))
	w.opens(root, "/m/f", wr|mk, 0)
	w.refuses(root, api.MountBusy, unbind("/m"))
	w.opens(root, "/a/f", wr, 1)
	w.opens(root, "/m", rd, 2)
	w.silent(root, shut(0))
	w.refuses(root, api.MountBusy, unbind("/m"))
	w.silent(root, shut(2), unbind("/m"))
	w.writes(root, 1, "x")
}
