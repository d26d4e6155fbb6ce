package model_test

import (
	"fmt"
	"slices"
	"testing"

	"warren/api"
	"warren/model"
)

// act is a call of a process.
type act struct {
	proc int
	c    api.Call
}

// by answers the calls as those of the process.
func by(proc int, calls ...api.Call) []act {
	var l []act
	for _, c := range calls {
		l = append(l, act{proc, c})
	}
	return l
}

// play answers a file system in which these were done, none of which is refused, with the chapter's words for it.
func play(t *testing.T, c api.Config, who []api.Cred, l []act) *twins {
	t.Helper()
	x := newTwins(t, c, who)
	for _, a := range l {
		if r := x.do(a.proc, a.c); r.Why != api.OK {
			t.Fatalf("%s: %v", told(a.proc, a.c), r.Why)
		}
	}
	return x
}

// unlike answers which of the things are not the same in both.
func unlike(a, b *telling) []string {
	var l []string
	x, y := a.tells(), b.tells()
	for _, thing := range things {
		if x[thing] != y[thing] {
			l = append(l, thing)
		}
	}
	return l
}

// differ asks that just these things be unlike, and that Same tell so either way, of copies, too.
func differ(t *testing.T, a, b *twins, want ...string) {
	t.Helper()
	if got := unlike(a.k, b.k); !slices.Equal(got, want) {
		t.Fatalf("unlike are %q, want %q", got, want)
	}
	is := len(want) == 0
	for _, x := range []*model.Model{a.m, a.m.Copy()} {
		for _, y := range []*model.Model{b.m, b.m.Copy()} {
			if x.Same(y) != is || y.Same(x) != is {
				t.Errorf("where just %q are unlike, Same is %v and %v", want, x.Same(y), y.Same(x))
			}
		}
	}
}

// P15.4: Same is false of nil, and true of itself and of what the same calls made.
func TestSameSelf(t *testing.T) {
	rows := [][]act{nil, by(root, busyWords()...), by(root, mkdir("/a"), rmdir("/a"))}
	for _, l := range rows {
		x := play(t, large, people(), l)
		if x.m.Same(nil) {
			t.Error("the same as nil")
		}
		if !x.m.Same(x.m) {
			t.Error("not the same as itself")
		}
		differ(t, x, play(t, large, people(), l))
	}
}

// P15.4: the configuration and the creds.
func TestSameSizes(t *testing.T) {
	base := api.Config{Nodes: 5, Blocks: 6, Files: 7}
	x := play(t, base, people(), nil)
	for _, c := range []api.Config{{Nodes: 6, Blocks: 6, Files: 7}, {Nodes: 5, Blocks: 7, Files: 7}, {Nodes: 5, Blocks: 6, Files: 8}, {Nodes: 6, Blocks: 5, Files: 7}} {
		differ(t, x, play(t, c, people(), nil), "configuration")
	}
	for i := range people() {
		uid, gid := people(), people()
		uid[i].Uid++
		gid[i].Gid++
		differ(t, x, play(t, base, uid, nil), "creds")
		differ(t, x, play(t, base, gid, nil), "creds")
	}
	two := people()
	two[0], two[1] = two[1], two[0]
	differ(t, x, play(t, base, two, nil), "creds")
	differ(t, x, play(t, base, people()[:3], nil), "creds", "Cwd", "descriptors")
	differ(t, x, play(t, base, append(people(), api.Cred{}), nil), "creds", "Cwd", "descriptors")
}

// P15.4: each of the other things is told; what else is unlike with it hangs on it.
func TestSameTells(t *testing.T) {
	file := by(root, open("/f", both|mk), write(0, "abc"), shut(0))
	dirs := by(root, mkdir("/a"), mkdir("/b"), mkdir("/m"))
	mounts := slices.Concat(dirs, by(root, mkdir("/a/in"), bind("/a", "/m")))
	opened := slices.Concat(file, by(root, open("/f", both)))
	for _, c := range []struct {
		what  string
		start []act
		a, b  []act
		want  []string
	}{
		{"a mode", file, nil, by(root, chmod("/f", 0o645)), []string{"Stat"}},
		{"a bit that means nothing", file, nil, by(root, chmod("/f", 0o4644)), []string{"Stat"}},
		{"a Dir's mode", dirs, nil, by(root, chmod("/a", 0o754)), []string{"Stat"}},
		{"the root's mode", dirs, nil, by(root, chmod("/", 0o777)), []string{"Stat"}},
		{"an owner", file, nil, by(root, chown("/f", 1, -1)), []string{"Stat"}},
		{"a group", file, nil, by(root, chown("/f", -1, 1)), []string{"Stat"}},
		{"the root's owner", file, nil, by(root, chown("/", 1, -1)), []string{"Stat"}},
		{"the root's group", file, nil, by(root, chown("/", -1, 1)), []string{"Stat"}},
		{"a kind", nil, by(root, symlink("abc", "/f")), by(root, open("/f", both|mk), write(0, "abc"), shut(0), chmod("/f", 0o777)), []string{"Stat", "Text", "bytes", "blocks"}},
		{"links", slices.Concat(file, dirs), nil, by(root, link("/f", "/a/f")), []string{"Stat", "Find", "Names"}},
		{"a name", file, nil, by(root, rename("/f", "/g")), []string{"Find", "Names"}},
		{"a Dir's name", dirs, nil, by(root, rename("/a", "/c")), []string{"Find", "Names"}},
		{"which node a name is of", dirs, nil, by(root, rename("/a", "/c"), rename("/b", "/a"), rename("/c", "/b")), []string{"Find"}},
		{"which File a name is of", nil, by(root, open("/f", rd|mk), open("/g", rd|mk), shut(0), shut(1)), by(root, open("/g", rd|mk), open("/f", rd|mk), shut(0), shut(1)), []string{"Find"}},
		{"which Dir a name is in", slices.Concat(file, dirs), by(root, rename("/f", "/a/f")), by(root, rename("/f", "/b/f")), []string{"Stat", "Find", "Names"}},
		{"what lies above", dirs, by(root, rename("/m", "/a/m")), by(root, rename("/m", "/b/m")), []string{"Stat", "Find", "Names", "Up"}},
		{"a text", nil, by(root, symlink("x", "/s")), by(root, symlink("y", "/s")), []string{"Text"}},
		{"a byte", file, by(root, open("/f", wr), write(0, "abc"), shut(0)), by(root, open("/f", wr), write(0, "abd"), shut(0)), []string{"bytes"}},
		{"a byte behind others", file, by(root, open("/f", wr|ap), write(0, noughts(900)+"x"), shut(0)), by(root, open("/f", wr|ap), write(0, noughts(900)+"y"), shut(0)), []string{"bytes"}},
		{"a size", file, nil, by(root, truncate("/f", 4)), []string{"Stat", "bytes"}},
		{"a block", file, by(root, truncate("/f", 32)), by(root, truncate("/f", 32), open("/f", wr), seek(0, 31, 0), write(0, "\x00"), shut(0)), []string{"blocks"}},
		{"which block", file, by(root, truncate("/f", 0), truncate("/f", 64), open("/f", wr), seek(0, 17, 0), write(0, "\x00"), shut(0)), by(root, truncate("/f", 0), truncate("/f", 64), open("/f", wr), seek(0, 33, 0), write(0, "\x00"), shut(0)), []string{"blocks"}},
		{"which of two Files has it", nil, by(root, open("/f", wr|mk), open("/g", wr|mk), write(0, "\x00"), shut(0), shut(1), truncate("/g", 1)), by(root, open("/f", wr|mk), open("/g", wr|mk), write(1, "\x00"), shut(0), shut(1), truncate("/f", 1)), []string{"blocks"}},
		{"the last block", file, by(root, truncate("/f", api.MaxSize)), by(root, open("/f", wr), seek(0, api.MaxSize-1, 0), write(0, "\x00"), shut(0)), []string{"blocks"}},
		{"a mount", dirs, by(root, bind("/a", "/m"), unbind("/m")), by(root, bind("/a", "/m")), []string{"List", "Root", "Down"}},
		{"a mount's number", dirs, by(root, bind("/a", "/m"), bind("/a", "/b"), unbind("/b")), by(root, bind("/a", "/b"), bind("/a", "/m"), unbind("/b")), []string{"List", "Root", "Down"}},
		{"a mount's top", dirs, by(root, bind("/a", "/m")), by(root, bind("/b", "/m")), []string{"Root", "Down"}},
		{"the top of a mount that another one lies over", dirs, by(root, bind("/a", "/m"), bind("/a", "/m")), by(root, bind("/b", "/m"), bind("/a", "/m")), []string{"Root", "Down"}},
		{"which node a mount lies at", dirs, by(root, bind("/a", "/m")), by(root, bind("/a", "/b")), []string{"Down"}},
		{"under which mount", mounts, by(root, bind("/b", "/a/in")), by(root, bind("/b", "/m/in")), []string{"Down"}},
		{"a Cwd", dirs, nil, by(root, chdir("/a")), []string{"Cwd"}},
		{"the last Cwd", dirs, by(carl, chdir("/a")), by(carl, chdir("/b")), []string{"Cwd"}},
		{"whose Cwd", dirs, by(ann, chdir("/a")), by(bob, chdir("/a")), []string{"Cwd"}},
		{"under which mount a Cwd is", mounts, by(ann, chdir("/a")), by(ann, chdir("/m")), []string{"Cwd"}},
		{"a descriptor", file, nil, by(root, open("/f", rd)), []string{"descriptors"}},
		{"which descriptor", opened, nil, by(root, open("/f", both), shut(0)), []string{"descriptors"}},
		{"the last descriptor", slices.Concat(opened, by(root, slices.Repeat([]api.Call{open("/f", rd)}, api.MaxFiles-1)...)), nil, by(root, shut(api.MaxFiles-1)), []string{"descriptors"}},
		{"whose descriptor", file, by(ann, open("/f", rd)), by(carl, open("/f", rd)), []string{"descriptors"}},
		{"a descriptor's node", slices.Concat(file, dirs), by(root, open("/a", rd)), by(root, open("/b", rd)), []string{"descriptors"}},
		{"a descriptor's mount", mounts, by(root, open("/a", rd)), by(root, open("/m", rd)), []string{"descriptors"}},
		{"flags", file, by(root, open("/f", rd)), by(root, open("/f", both)), []string{"descriptors"}},
		{"a flag that means nothing any more", file, by(root, open("/f", rd)), by(root, open("/f", rd|nf)), []string{"descriptors"}},
		{"Append", file, by(root, open("/f", wr)), by(root, open("/f", wr|ap)), []string{"descriptors"}},
		{"where it is gone on", opened, nil, by(root, seek(0, 1, 0)), []string{"descriptors"}},
		{"where it is gone on, by Read", opened, nil, by(root, read(0, 1)), []string{"descriptors"}},
		{"the next node, by a Dir", file, nil, by(root, mkdir("/z"), rmdir("/z")), []string{"next node"}},
		{"the next node, by a Symlink", file, nil, by(root, symlink("x", "/z"), unlink("/z")), []string{"next node"}},
		{"the next node, by a File", file, nil, by(root, open("/z", rd|mk), unlink("/z"), shut(0)), []string{"next node"}},
		{"the next node, by one more", file, by(root, mkdir("/z"), rmdir("/z")), by(root, mkdir("/z"), rmdir("/z"), mkdir("/z"), rmdir("/z")), []string{"next node"}},
		{"the next mount", dirs, nil, by(root, bind("/a", "/m"), unbind("/m")), []string{"next mount"}},
		{"the next mount, with one there", mounts, nil, by(root, bind("/b", "/m"), unbind("/m")), []string{"next mount"}},
		{"a node", file, by(root, mkdir("/z"), rmdir("/z")), by(root, mkdir("/z")), []string{"live", "Stat", "Find", "Names", "Up", "Text", "bytes", "blocks", "Down"}},
		{"a node without a name", dirs, by(root, chdir("/a")), by(root, chdir("/a"), rmdir("/a")), []string{"Stat", "Find", "Names", "Up"}},
	} {
		t.Run(c.what, func(t *testing.T) {
			differ(t, play(t, large, people(), slices.Concat(c.start, c.a)), play(t, large, people(), slices.Concat(c.start, c.b)), c.want...)
		})
	}
}

// P15.4: it is not told by which calls it came so.
func TestSameByOtherWays(t *testing.T) {
	for i, c := range []struct{ a, b []act }{
		{by(root, mkdir("/a")), by(root, mkdir("/b"), rename("/b", "/a"))},
		{by(root, mkdir("/a"), chmod("/a", 0o700)), by(root, api.Call{Op: api.Mkdir, Path: "/a/", Mode: 0o700})},
		{by(root, mkdir("/a"), mkdir("/b")), by(root, mkdir("/b"), mkdir("/a"), rename("/a", "/c"), rename("/b", "/a"), rename("/c", "/b"))},
		{by(root, open("/f", both|mk), write(0, "abc")), by(root, open("/f", both|mk), write(0, "a"), write(0, "bc"))},
		{by(root, open("/f", both|mk), write(0, noughts(20)), truncate("/f", 3)), by(root, open("/f", both|mk), write(0, noughts(3)), seek(0, 20, 0))},
		{by(root, open("/f", both|mk), write(0, "abc"), truncate("/f", 1), truncate("/f", 3)), by(root, open("/f", both|mk), write(0, "a\x00\x00"))},
		{by(root, open("/f", both|mk), open("/f", rd), open("/f", rd), shut(0)), by(root, open("/f", rd|mk), open("/f", rd), shut(0), open("/f", both), open("/f", rd), shut(0))},
		{by(root, open("/f", rd|mk), open("/f", rd), shut(1)), by(root, open("/f", rd|mk), read(0, 5), seek(0, 9, 0), seek(0, 0, 0))},
		{slices.Concat(by(ann, chdir("/")), by(root, mkdir("/a"))), slices.Concat(by(root, mkdir("/a")), by(ann, chdir("a"), chdir("..")))},
		{by(root, mkdir("/a"), mkdir("/b"), bind("/a", "/b"), bind("/b", "/a")), by(root, mkdir("/b"), mkdir("/a"), rename("/a", "/c"), rename("/b", "/a"), rename("/c", "/b"), bind("/a", "/b"), bind("/b", "/a"))},
		{slices.Concat(by(root, open("/f", rd|mk)), by(ann, open("/f", rd))), slices.Concat(by(root, open("/f", rd|mk), shut(0)), by(ann, open("/f", rd)), by(root, open("/f", rd|mk)))},
	} {
		t.Run(fmt.Sprint(i), func(t *testing.T) {
			differ(t, play(t, large, people(), c.a), play(t, large, people(), c.b))
		})
	}
}

// crowd answers what is as full as may be: nodes without names, Dirs that hold as many as they may, and lie in others that were made later, names that are numbers, mounts over mounts, descriptors with gaps, holes.
func crowd() []act {
	l := by(root, chmod("/", 0o777), chown("/", 3, 4))
	for i := range 14 {
		l = append(l, by(root, mkdir(fmt.Sprintf("/%d", i)))...)
	}
	for i := range 14 {
		l = append(l, by(root, mkdir(fmt.Sprintf("/13/%d", i)))...)
	}
	// Those that were made last hold those that were made first.
	l = append(l, by(root, rename("/0", "/13/13/0"), mkdir("/late"), rename("/1", "/late/1"), rename("/2", "/late/1/2"), mkdir("/late/3"), rename("/late/3", "/0"), rename("/late/1", "/0/1"), rename("/13", "/0/1/2/13"))...)
	for i := range 6 {
		l = append(l, by(root, open(fmt.Sprintf("/late/f%d", i), both|mk), write(0, noughts(i)+"x"), seek(0, 40*i, 0), write(0, "y"), shut(0), truncate(fmt.Sprintf("/late/f%d", i), 50))...)
	}
	l = append(l, by(root, link("/late/f1", "/0/g"), link("/late/f1", "/late/g"), symlink("late/g", "/s"), symlink("../", "/late/t"), unlink("/late/f5"), open("/late/hole", rd|mk), shut(0), truncate("/late/hole", 100))...)
	l = append(l, by(root, mkdir("/late/m"), mkdir("/late/n"), mkdir("/late/o"), bind("/late", "/late/n"), bind("/0", "/late/m"), unbind("/late/n"), bind("/late/o", "/late/m"), rmdir("/late/o"), bind("/", "/late/n"))...)
	l = append(l, by(ann, open("/late/f0", rd), open("/late/f1", rd), open("/late/m", rd), open("/s", rd|ap), shut(0), shut(2), read(1, 1))...)
	l = append(l, by(root, mkdir("/late/gone"), chmod("/late/gone", 0o700), open("/late/gone", rd), chdir("/late/gone"), rmdir("/late/gone"), open("/late/f2", both), unlink("/late/f2"), write(1, "more"))...)
	return append(l, by(carl, chdir("/late/n/late"))...)
}

// P15.3, P15.4: a copy of a crowd is the same, and so is a copy of that.
func TestCopyCrowd(t *testing.T) {
	x := play(t, large, people(), crowd())
	o := x.m.Copy()
	if o == x.m || !x.m.Same(o) || !o.Same(x.m) || !o.Copy().Same(x.m) {
		t.Error("a copy is not the same")
	}
	if fmt.Sprint(o.Live(), o.Blocks(), o.Open()) != fmt.Sprint(x.m.Live(), x.m.Blocks(), x.m.Open()) {
		t.Error("a copy counts otherwise")
	}
	if a, b := (&world{t, x.m}).look(), (&world{t, o}).look(); a != b {
		t.Errorf("a copy tells\n%s, want\n%s", b, a)
	}
}

// P15.3: a copy goes its own way, and so does what it was copied from: each call that a crowd lets be done is done in the one, and the other is as it was.
func TestCopyGoesItsOwnWay(t *testing.T) {
	calls := []act{
		{root, mkdir("/z")}, {root, rmdir("/3")}, {root, open("/late/f1", both|ct)}, {root, shut(0)}, {root, shut(1)}, {ann, read(1, 1)}, {root, write(1, "abc")}, {ann, seek(1, 5, 0)}, {root, truncate("/late/f0", 0)},
		{root, link("/late/f0", "/z")}, {root, unlink("/0/g")}, {root, symlink("x", "/z")}, {root, rename("/3", "/z")}, {root, chmod("/late", 0)}, {root, chmod("/", 0)}, {root, chown("/late/f1", 9, 9)},
		{root, chdir("/")}, {carl, chdir("/")}, {root, bind("/0", "/3")}, {root, unbind("/late/m")},
	}
	for _, a := range calls {
		x := play(t, large, people(), crowd())
		o, other := x.m.Copy(), x.m.Copy()
		if r := o.Do(a.proc, a.c); r.Why != api.OK {
			t.Fatalf("%s: %v", told(a.proc, a.c), r.Why)
		}
		if o.Same(x.m) || x.m.Same(o) || !x.m.Same(other) {
			t.Errorf("%s in the copy: Same is %v, and %v of what was not touched", told(a.proc, a.c), o.Same(x.m), x.m.Same(other))
		}
		x.do(a.proc, a.c)
		if !o.Same(x.m) || x.m.Same(other) {
			t.Errorf("%s in both: Same is %v", told(a.proc, a.c), o.Same(x.m))
		}
	}
}

// P15.3, P15.5: a copy lets go as what it was copied from would: of all that was held nothing is left.
func TestCopyLetsGo(t *testing.T) {
	x := play(t, large, people(), crowd())
	x.m = x.m.Copy()
	for proc := range nobody {
		for fd := range api.MaxFiles {
			x.do(proc, shut(fd))
		}
		x.do(proc, chdir("/"))
	}
	for range api.MaxMounts {
		for _, path := range []string{"/late/n/late/n", "/late/n", "/late/m"} {
			x.do(root, unbind(path))
		}
	}
	if got := x.m.Open(); got != 0 {
		t.Errorf("%d open", got)
	}
	for _, path := range []string{"/late/f0", "/late/f1", "/late/f3", "/late/f4", "/late/hole", "/late/g", "/late/t", "/0/g", "/s"} {
		x.do(root, unlink(path))
	}
	for range 6 {
		var clean func(path string)
		clean = func(path string) {
			for _, s := range x.m.Do(root, list(path+"/")).Names {
				clean(path + "/" + s)
			}
			if path != "" {
				x.do(root, rmdir(path))
			}
		}
		clean("")
	}
	if got := fmt.Sprint(x.m.Live(), x.m.Blocks()); got != "[1] 0" {
		t.Errorf("left are %s", got)
	}
}

// P15.3: Dirs that are full can be copied, whichever of them was made first: each has as many as it may, and no more, then.
func TestCopyFullDirs(t *testing.T) {
	const full = api.MaxLinks - 2
	for _, turned := range []int{0, 1, 2, 3} {
		x := newTwins(t, large, people())
		must := func(calls ...api.Call) {
			t.Helper()
			for _, c := range calls {
				if r := x.do(root, c); r.Why != api.OK {
					t.Fatalf("%s: %v", told(root, c), r.Why)
				}
			}
		}
		// Three Dirs come to hold as many as they may, made ahead of them or behind them, and then lie in one another.
		must(mkdir("/x"), mkdir("/x/y"), mkdir("/x/y/z"))
		for _, path := range []string{"/!", "/x/!", "/x/y/!", "/x/y/z/!"} {
			must(symlink("a name ahead of all others", path))
		}
		dirs := []string{"/x/y/z", "/x/y", "/x"}
		for i := range full {
			for j, dir := range dirs {
				if r := x.do(root, mkdir(fmt.Sprintf("%s/%d", dir, i))); r.Why != api.OK && (j == 0 || r.Why != api.ManyLinks) {
					t.Fatalf("%s/%d: %v", dir, i, r.Why)
				}
			}
		}
		switch turned {
		case 1: // what was made first lies lowest
			must(rename("/x/y/z", "/z"), rename("/x/y", "/z/13/y"), rename("/x", "/z/13/y/x"))
		case 2:
			must(rename("/x/y", "/y"), rename("/x", "/y/z/3/x"))
		case 3: // the root is full, of those that were made last
			must(rename("/x", "/x0"), mkdir("/first"), rename("/x0", "/first/x"))
			for i := range full - 1 {
				must(rename(fmt.Sprintf("/first/x/y/z/%d", i), fmt.Sprintf("/up%d", i)))
			}
		}
		o := x.m.Copy()
		if !o.Same(x.m) || !x.m.Same(o) {
			t.Fatalf("a copy is not the same: %d", turned)
		}
		x.m = o
		for _, dir := range []string{"/", "/x", "/x/y", "/x/y/z", "/z", "/y", "/y/z", "/first", "/z/13/y", "/z/13/y/x"} {
			x.do(root, mkdir(dir+"/more"))
		}
	}
}

// P15.3: a full table of files with gaps can be copied, however it came so.
func TestCopyFullTables(t *testing.T) {
	for _, limit := range []int{1, 2, 3, 7, 8, 9, 15, 16, 17, 24, 32} {
		x := newTwins(t, api.Config{Nodes: 3, Blocks: 1, Files: limit}, people())
		x.do(root, open("/f", rd|mk))
		for turn := range 24 {
			for i := range 12 {
				x.do((i*turn+i)%4, open("/f", 1+i%3))
			}
			for i := range 9 {
				x.do((i+turn)%4, shut((i*7+turn*turn)%8))
			}
			if turn%2 == 0 {
				for i := range 30 {
					x.do(i%4, open("/f", 1+i%3))
				}
			}
			o := x.m.Copy()
			if !o.Same(x.m) {
				t.Fatalf("a copy is not the same as\n%s", x.k.all())
			}
			x.m = o
		}
	}
}

// P15.3, P15.4: a file system that has no room left can be copied: the numbers of what is gone, too.
func TestCopyWithoutRoom(t *testing.T) {
	x := newTwins(t, api.Config{Nodes: 3, Blocks: 1, Files: 1}, people())
	for range 20 {
		for _, c := range []api.Call{mkdir("/a"), open("/0", both|mk), write(0, "x"), mkdir("/c"), shut(0), rename("/0", "/a/1"), bind("/a", "/"), unlink("1"), unbind("/"), unlink("/a/1"), rmdir("/a"), symlink("0", "/0"), mkdir("/1"), unlink("/0"), rmdir("/1")} {
			x.do(root, c)
			o := x.m.Copy()
			if !o.Same(x.m) || !x.m.Same(o) {
				t.Fatalf("behind %s a copy is not the same", told(root, c))
			}
			x.m = o
		}
	}
}

// P15.5: the same calls give the same results, in one that is new and in a copy.
func TestSameCallsSameResults(t *testing.T) {
	a, b := play(t, large, people(), nil).m, play(t, large, people(), nil).m
	for i, k := range crowd() {
		x, y, z := a.Copy().Do(k.proc, k.c), a.Do(k.proc, k.c), b.Do(k.proc, k.c)
		if !same(x, y) || !same(x, z) {
			t.Errorf("call %d: %v, %v, %v", i, x, y, z)
		}
	}
	if !a.Same(b) {
		t.Error("behind the same calls they are not the same")
	}
}
