package dcache_test

import (
	"math"
	"strconv"
	"strings"
	"testing"

	"warren/api"
	"warren/dcache"
)

func made(t *testing.T, most int) *dcache.Cache {
	t.Helper()
	c, why := dcache.New(most)
	if c == nil || why != api.OK {
		t.Fatalf("New(%d): %v, %v", most, c, why)
	}
	return c
}

// entry is a name of a dir and what is to be remembered of it.
type entry struct {
	dir  int
	name string
	node int
}

// filled makes a cache in which each of the entries was Put, for none of which one goes.
func filled(t *testing.T, most int, l ...entry) *dcache.Cache {
	t.Helper()
	c := made(t, most)
	for _, e := range l {
		goes(t, c, e, "")
	}
	return c
}

// numbered answers n entries of that dir: the names 0 to n - 1, of the nodes 1 to n.
func numbered(dir, n int) []entry {
	var l []entry
	for i := range n {
		l = append(l, entry{dir, strconv.Itoa(i), i + 1})
	}
	return l
}

// goes Puts the entry, for which that name must go.
func goes(t *testing.T, c *dcache.Cache, e entry, want string) {
	t.Helper()
	if gone := c.Put(e.dir, e.name, e.node); gone != want {
		t.Fatalf("Put(%d, %q, %d): %q, want %q", e.dir, e.name, e.node, gone, want)
	}
}

// is asks for the name, which must be remembered as it was Put; this uses it.
func is(t *testing.T, c *dcache.Cache, l ...entry) {
	t.Helper()
	for _, e := range l {
		how, node := dcache.Hit, e.node
		if e.node <= 0 {
			how, node = dcache.Negative, 0
		}
		if h, n := c.Get(e.dir, e.name); h != how || n != node {
			t.Errorf("Get(%d, %q): %d, %d, want %d, %d", e.dir, e.name, h, n, how, node)
		}
	}
}

// misses asks for names that must not be remembered, whatever their nodes.
func misses(t *testing.T, c *dcache.Cache, l ...entry) {
	t.Helper()
	for _, e := range l {
		if h, n := c.Get(e.dir, e.name); h != dcache.Miss || n != 0 {
			t.Errorf("Get(%d, %q): %d, %d, want a Miss", e.dir, e.name, h, n)
		}
	}
}

func long(t *testing.T, c *dcache.Cache, want int) {
	t.Helper()
	if n := c.Len(); n != want {
		t.Errorf("Len: %d, want %d", n, want)
	}
}

// only: these, the one that was used longest ago first, are all that is remembered; nothing is afterwards. Asked for what is there is the last alone, since this turns no order.
func only(t *testing.T, c *dcache.Cache, l ...entry) {
	t.Helper()
	for i, e := range l {
		long(t, c, len(l)-i)
		is(t, c, l[len(l)-1])
		if n := c.Shrink(1); n != 1 {
			t.Fatalf("Shrink(1): %d", n)
		}
		misses(t, c, e)
	}
	long(t, c, 0)
	if n := c.Shrink(1); n != 0 {
		t.Errorf("Shrink(1) of an empty cache: %d", n)
	}
}

// P20.1: the kinds are three numbers from 1.
func TestKinds(t *testing.T) {
	if dcache.Miss != 1 || dcache.Hit != 2 || dcache.Negative != 3 {
		t.Error(dcache.Miss, dcache.Hit, dcache.Negative)
	}
}

// P20.1: how many names a cache may be made for; a new one has none.
func TestNewTakesOneToMaxSlots(t *testing.T) {
	for n := 1; n <= api.MaxSlots; n++ {
		c := made(t, n)
		long(t, c, 0)
		misses(t, c, entry{0, "", 0}, entry{1, "a", 0}, entry{-1, "/", 0})
		if c.Drop(1, "a") || c.Forget(1) != 0 || c.Shrink(9) != 0 {
			t.Error("a new cache forgets something")
		}
		long(t, c, 0)
	}
	for _, n := range []int{0, -1, -2, -api.MaxSlots, api.MaxSlots + 1, api.MaxSlots + 2, 128, 256, 1 << 31, 1 << 32, 1<<32 + 1, math.MaxInt, math.MinInt, math.MinInt + 1} {
		if c, why := dcache.New(n); c != nil || why != api.ErrArg {
			t.Errorf("New(%d): %v, %v", n, c, why)
		}
	}
}

// The chapter's runs.
func TestRuns(t *testing.T) {
	c := filled(t, 3, entry{1, "a", 5})
	is(t, c, entry{1, "a", 5})
	goes(t, c, entry{1, "a", 0}, "")
	is(t, c, entry{1, "a", 0})
	misses(t, c, entry{2, "a", 0})
}

// P20.1: of every size, as many names as most are remembered, and one more lets the first go, round after round, whether they are there or not.
func TestMostNamesStay(t *testing.T) {
	for most := 1; most <= api.MaxSlots; most++ {
		for _, node := range []int{7, 0} {
			c := made(t, most)
			for i := range 4 * most {
				want := ""
				if i >= most {
					want = strconv.Itoa(i - most)
				}
				goes(t, c, entry{i % 3, strconv.Itoa(i), node}, want)
				long(t, c, min(i+1, most))
			}
			for i := range 4 * most {
				e := entry{i % 3, strconv.Itoa(i), node}
				if i < 3*most {
					misses(t, c, e)
				} else {
					is(t, c, e)
				}
			}
		}
	}
}

// P20.1: a cache that may remember one name alone.
func TestCacheOfOneName(t *testing.T) {
	c := filled(t, 1, entry{1, "a", 5}, entry{1, "a", 6})
	is(t, c, entry{1, "a", 6})
	goes(t, c, entry{2, "a", 7}, "a")
	misses(t, c, entry{1, "a", 0})
	is(t, c, entry{2, "a", 7})
	goes(t, c, entry{2, "b", 0}, "a")
	goes(t, c, entry{2, "b", -3}, "")
	is(t, c, entry{2, "b", 0})
	goes(t, c, entry{2, "", 1}, "b")
	goes(t, c, entry{2, "c", 1}, "")
	misses(t, c, entry{2, "", 0})
	only(t, c, entry{2, "c", 1})
}

// P20.1: a Get of what is remembered uses it, be it there or not, and so turns who goes; one of what is not remembered uses nothing.
func TestGetUses(t *testing.T) {
	for _, node := range []int{5, 0} {
		for i := range 4 {
			l := numbered(1, 4)
			l[i].node = node
			c := filled(t, 4, l...)
			is(t, c, l[i])
			misses(t, c, entry{2, l[(i+1)%4].name, 0}, entry{1, "x", 0})
			rest := append(append([]entry{}, l[:i]...), l[i+1:]...)
			for k, e := range rest {
				goes(t, c, entry{9, strconv.Itoa(k), 1}, e.name)
				misses(t, c, e)
			}
			goes(t, c, entry{9, "last", 1}, l[i].name)
			misses(t, c, l[i])
		}
	}
}

// P20.1, example 3: a Put of what is there uses it and lets nothing go, also where it turns Hit to Negative and back.
func TestPutOfWhatIsThereUses(t *testing.T) {
	for was := range 2 {
		for node := range 3 {
			for i := range 4 {
				l := numbered(1, 4)
				l[i].node = was
				c := filled(t, 4, l...)
				l[i].node = node
				goes(t, c, l[i], "")
				long(t, c, 4)
				rest := append(append([]entry{}, l[:i]...), l[i+1:]...)
				only(t, c, append(rest, l[i])...)
			}
		}
	}
}

// P20.1: node 0 and below tell that there is none; each Put tells anew.
func TestNodes(t *testing.T) {
	c := made(t, 2)
	goes(t, c, entry{1, "b", 9}, "")
	for _, node := range []int{1, 0, 2, -1, 3, math.MinInt, math.MaxInt, -math.MaxInt, 64, 65, -64, 1 << 32, -1 << 32, 1, 1, 0, 0} {
		goes(t, c, entry{1, "a", node}, "")
		is(t, c, entry{1, "a", node}, entry{1, "a", node}, entry{1, "b", 9})
		long(t, c, 2)
	}
}

// names are some that may be taken for others, or for parts of what they are kept by.
func names() []string {
	l := []string{"", "/", "//", "a", "A", "a/", "/a", "1/a", "1", "-1", "-", "0", "00", ".", "..", " ", "\x00", "\x00\x00", "a\x00", "\xff", "\xfe\xff", "é", "e\u0301", "1//", "-1/a", ":", "1:a", ",", "\n", strings.Repeat("x", 255), strings.Repeat("x", 256), strings.Repeat("x", 100000), strings.Repeat("/", 5000)}
	return l
}

// Example 1: names may be anything; each is remembered apart from the others, and comes back byte for byte when it goes.
func TestNamesMayBeAnything(t *testing.T) {
	l := names()
	c := made(t, len(l))
	for i, s := range l {
		misses(t, c, entry{1, s, 0})
		goes(t, c, entry{1, s, i}, "")
	}
	for i, s := range l {
		is(t, c, entry{1, s, i})
		misses(t, c, entry{2, s, 0}, entry{11, s, 0}, entry{-1, s, 0}, entry{0, s, 0})
	}
	long(t, c, len(l))
	for i, s := range l {
		goes(t, c, entry{3, l[len(l)-1-i], i}, s)
		misses(t, c, entry{1, s, 0})
	}
	for i, s := range l {
		is(t, c, entry{3, s, len(l) - 1 - i})
		if !c.Drop(3, s) || c.Drop(3, s) {
			t.Errorf("Drop(%q) and once more", s)
		}
		misses(t, c, entry{3, s, 0})
		long(t, c, len(l)-1-i)
	}
}

// P20.1: every byte is a name, and every two differ.
func TestEveryByte(t *testing.T) {
	for b := range 256 {
		c := filled(t, 3, entry{1, string([]byte{byte(b)}), 5}, entry{1, string([]byte{byte(b), byte(b)}), 6})
		for o := range 256 {
			e := entry{1, string([]byte{byte(o)}), 5}
			if o == b {
				is(t, c, e)
			} else {
				misses(t, c, e)
			}
		}
		misses(t, c, entry{1, "", 0})
	}
}

// P20.1: the same name in two dirs is two names, whatever the dirs' numbers.
func TestSameNameInManyDirs(t *testing.T) {
	dirs := []int{0, 1, -1, 2, -2, 10, 11, 12, 112, -11, 100, 64, 65, 1 << 32, 1<<32 + 1, -1 << 32, math.MaxInt, math.MinInt, math.MinInt + 1}
	for _, s := range []string{"", "1", "/", "1/", "a", "1/1", "-1/1", "0/a"} {
		c := made(t, len(dirs))
		for i, d := range dirs {
			misses(t, c, entry{d, s, 0})
			goes(t, c, entry{d, s, i}, "")
		}
		for i, d := range dirs {
			is(t, c, entry{d, s, i})
			if n := c.Forget(d); n != 1 {
				t.Errorf("Forget(%d): %d", d, n)
			}
			misses(t, c, entry{d, s, 0})
			long(t, c, len(dirs)-i-1)
			for k, o := range dirs[i+1:] {
				is(t, c, entry{o, s, i + 1 + k})
			}
		}
	}
}

// P20.1: what a dir's number and a name make together is not what others make.
func TestDirsAndNamesAreApart(t *testing.T) {
	l := []entry{{1, "1/a", 1}, {11, "/a", 2}, {1, "/1/a", 3}, {11, "a", 4}, {1, "1a", 5}, {1, "a", 6}, {-1, "1/a", 7}, {-11, "a", 8}, {0, "11/a", 9}, {1, "/a", 10}, {111, "", 11}, {11, "1", 12}, {1, "11", 13}}
	c := filled(t, len(l), l...)
	is(t, c, l...)
	if n := c.Forget(1); n != 5+1 {
		t.Errorf("Forget(1): %d", n)
	}
	for _, e := range l {
		if e.dir == 1 {
			misses(t, c, e)
		} else {
			is(t, c, e)
		}
	}
	long(t, c, len(l)-6)
}

// P20.1: Drop forgets that name alone, one that is there as Negative, too; of what is not there it is false, and uses nothing.
func TestDrop(t *testing.T) {
	for i := range 4 {
		l := numbered(1, 4)
		l[2].node = 0
		c := filled(t, 4, l...)
		for _, e := range []entry{{2, l[i].name, 0}, {1, "x", 0}, {-1, l[i].name, 0}, {1, l[i].name + "\x00", 0}, {1, "", 0}} {
			if c.Drop(e.dir, e.name) {
				t.Errorf("Drop(%d, %q): true", e.dir, e.name)
			}
		}
		long(t, c, 4)
		if !c.Drop(1, l[i].name) {
			t.Error("Drop of what is there: false")
		}
		long(t, c, 3)
		if c.Drop(1, l[i].name) {
			t.Error("Drop, twice: true")
		}
		misses(t, c, l[i])
		rest := append(append([]entry{}, l[:i]...), l[i+1:]...)
		// There is room for one again, which is used last.
		goes(t, c, l[i], "")
		only(t, c, append(rest, l[i])...)
	}
}

// P20.1: Forget of a dir with none, some and all names; the others stay, by when they were used.
func TestForget(t *testing.T) {
	mixed := []entry{{1, "a", 5}, {2, "a", 6}, {1, "b", 0}, {-1, "a", 7}, {0, "a", 0}, {1, "c", 8}, {2, "b", 9}, {0, "b", 1}, {12, "a", 2}, {1, "", 3}}
	for dir, want := range map[int]int{1: 4, 2: 2, -1: 1, 0: 2, 12: 1, 3: 0, -2: 0, 11: 0, math.MaxInt: 0, math.MinInt: 0} {
		c := filled(t, len(mixed), mixed...)
		if n := c.Forget(dir); n != want {
			t.Errorf("Forget(%d): %d, want %d", dir, n, want)
		}
		var rest []entry
		for _, e := range mixed {
			if e.dir == dir {
				misses(t, c, e)
			} else {
				rest = append(rest, e)
			}
		}
		if n := c.Forget(dir); n != 0 {
			t.Errorf("Forget(%d), twice: %d", dir, n)
		}
		only(t, c, rest...)
	}
	for n := range api.MaxSlots + 1 {
		c := filled(t, api.MaxSlots, numbered(-4, n)...)
		if c.Forget(4) != 0 || c.Forget(-4) != n || c.Len() != 0 {
			t.Errorf("Forget of all %d names", n)
		}
		misses(t, c, numbered(-4, n)...)
		goes(t, c, entry{-4, "0", 3}, "")
		is(t, c, entry{-4, "0", 3})
	}
}

// P20.1, example 2: Shrink of -1, 0, some, as many as there are, more.
func TestShrink(t *testing.T) {
	for there := range 6 {
		for n, want := range map[int]int{-1: 0, 0: 0, 1: min(1, there), 2: min(2, there), there: there, there + 1: there, 64: there, math.MaxInt: there, math.MinInt: 0} {
			l := numbered(1, there)
			if there > 2 {
				l[1].dir, l[2].node = -7, 0
			}
			c := filled(t, 6, l...)
			if got := c.Shrink(n); got != want {
				t.Errorf("Shrink(%d) of %d: %d", n, there, got)
			}
			misses(t, c, l[:want]...)
			only(t, c, l[want:]...)
		}
	}
}

// P20.1: Shrink goes by use, not by when a name came.
func TestShrinkGoesByUse(t *testing.T) {
	l := numbered(1, 5)
	c := filled(t, 5, l...)
	is(t, c, l[0], l[2])
	goes(t, c, l[1], "")
	if n := c.Shrink(2); n != 2 {
		t.Errorf("Shrink(2): %d", n)
	}
	misses(t, c, l[3], l[4])
	only(t, c, l[0], l[2], l[1])
}

// P20.2: of a name that went and came again what was Put last is remembered, and nothing while it is gone.
func TestWhatWasPutLast(t *testing.T) {
	c := filled(t, 2, entry{1, "a", 5}, entry{1, "b", 6})
	goes(t, c, entry{1, "c", 7}, "a")
	misses(t, c, entry{1, "a", 0})
	goes(t, c, entry{1, "a", 8}, "b")
	is(t, c, entry{1, "a", 8}, entry{1, "c", 7})
	for _, gone := range []func(){func() { c.Drop(1, "a") }, func() { c.Forget(1) }, func() { c.Shrink(2) }} {
		gone()
		misses(t, c, entry{1, "a", 0})
		goes(t, c, entry{1, "a", 0}, "")
		is(t, c, entry{1, "a", 0})
		goes(t, c, entry{1, "a", 3}, "")
		is(t, c, entry{1, "a", 3})
	}
}

// Two caches have nothing in common.
func TestTwoCaches(t *testing.T) {
	a, b := filled(t, 2, entry{1, "a", 5}), filled(t, 2, entry{1, "a", 0}, entry{1, "b", 6})
	is(t, a, entry{1, "a", 5})
	a.Forget(1)
	misses(t, a, entry{1, "a", 0}, entry{1, "b", 0})
	only(t, b, entry{1, "a", 0}, entry{1, "b", 6})
}
