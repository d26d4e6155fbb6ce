package tree_test

import (
	"fmt"
	"math"
	"slices"
	"strings"
	"testing"
	"unsafe"

	"warren/api"
	"warren/block"
	"warren/tree"
)

const edge = api.BlockBytes

// made answers a tree of the root alone.
func made(t *testing.T, nodes, blocks int) *tree.Tree {
	t.Helper()
	x, why := tree.New(nodes, blocks)
	if x == nil || why != api.OK {
		t.Fatalf("New(%d, %d): %v, %v", nodes, blocks, x, why)
	}
	return x
}

// makes asks for a node without text that is to have the number.
func makes(t *testing.T, x *tree.Tree, dir int, s string, kind, want int) {
	t.Helper()
	if n, why := x.Make(dir, s, api.Stat{Kind: kind}, ""); n != want || why != api.OK {
		t.Fatalf("Make(%d, %q, %d): %d, %v, want %d", dir, s, kind, n, why, want)
	}
}

func notMade(t *testing.T, x *tree.Tree, dir int, s string, kind int, text string, want api.Errno) {
	t.Helper()
	if n, why := x.Make(dir, s, api.Stat{Kind: kind, Mode: 0o777}, text); n != 0 || why != want {
		t.Errorf("Make(%d, %q, %d, %q): %d, %v, want %v", dir, s, kind, text, n, why, want)
	}
}

func joins(t *testing.T, x *tree.Tree, dir int, s string, n int, want api.Errno) {
	t.Helper()
	if why := x.Join(dir, s, n); why != want {
		t.Errorf("Join(%d, %q, %d): %v, want %v", dir, s, n, why, want)
	}
}

func parts(t *testing.T, x *tree.Tree, dir int, s string, want api.Errno) {
	t.Helper()
	if why := x.Part(dir, s); why != want {
		t.Errorf("Part(%d, %q): %v, want %v", dir, s, why, want)
	}
}

func moves(t *testing.T, x *tree.Tree, dir int, s string, to int, as string, want api.Errno) {
	t.Helper()
	if why := x.Move(dir, s, to, as); why != want {
		t.Errorf("Move(%d, %q, %d, %q): %v, want %v", dir, s, to, as, why, want)
	}
}

func holds(t *testing.T, x *tree.Tree, n int, want api.Errno) {
	t.Helper()
	if why := x.Hold(n); why != want {
		t.Errorf("Hold(%d): %v, want %v", n, why, want)
	}
}

func looses(t *testing.T, x *tree.Tree, n int, want api.Errno) {
	t.Helper()
	if why := x.Loose(n); why != want {
		t.Errorf("Loose(%d): %v, want %v", n, why, want)
	}
}

// finds asks whose name it is, 0 for nobody's.
func finds(t *testing.T, x *tree.Tree, dir int, s string, want int) {
	t.Helper()
	if n, there := x.Find(dir, s); n != want || there != (want != 0) {
		t.Errorf("Find(%d, %q): %d, %v, want %d", dir, s, n, there, want)
	}
}

// counts asks a live node's Links and Size.
func counts(t *testing.T, x *tree.Tree, n, links, size int) {
	t.Helper()
	if st, live := x.Stat(n); !live || st.Node != n || st.Links != links || st.Size != size {
		t.Errorf("Stat(%d): %+v, %v, want Links %d, Size %d", n, st, live, links, size)
	}
}

func live(t *testing.T, x *tree.Tree, want ...int) {
	t.Helper()
	if got := x.Live(); !slices.Equal(got, want) {
		t.Errorf("Live: %v, want %v", got, want)
	}
}

// look tells all that can be asked of nodes 1 to last without turning anything.
func look(x *tree.Tree, last int) string {
	text := fmt.Sprint(x.Live(), x.Left())
	for n := 1; n <= last; n++ {
		st, live := x.Stat(n)
		b, why := x.Read(n, 0, api.MaxSize)
		text += fmt.Sprintf("; %v %v %q up %d %q %q %d", st, live, x.Names(n), x.Up(n), x.Text(n), b, why)
		for _, s := range x.Names(n) {
			m, _ := x.Find(n, s)
			text += fmt.Sprint(" ", m)
		}
	}
	return text
}

// letters answers n bytes, none of which is 0.
func letters(n int) []byte {
	b := make([]byte, n)
	for i := range b {
		b[i] = byte('A' + i%57)
	}
	return b
}

// blocksLeft answers how many blocks are free, by Files that are written full till there is none. They stay.
func blocksLeft(x *tree.Tree) int {
	left := 0
	for i := 0; ; i++ {
		n, why := x.Make(1, fmt.Sprint("fill", i), api.Stat{Kind: api.File}, "")
		if why != api.OK {
			return left
		}
		for at := 0; at < api.MaxSize; at += edge {
			if x.Write(n, at, []byte("x")) != api.OK {
				return left
			}
			left++
		}
	}
}

// filled answers a tree with /d (2), which is full of Dirs (3 to 16), and /d2 (17).
func filled(t *testing.T, nodes int) *tree.Tree {
	t.Helper()
	x := made(t, nodes, 4)
	makes(t, x, 1, "d", api.Dir, 2)
	for i := range api.MaxLinks - 2 {
		makes(t, x, 2, fmt.Sprint("s", i), api.Dir, 3+i)
	}
	makes(t, x, 1, "d2", api.Dir, 17)
	return x
}

// notRight are texts that may be no names.
var notRight = []string{"", ".", "..", "/", "a/b", "/a", "a/", "\x00", "a\x00", strings.Repeat("x", api.MaxName+1), strings.Repeat("x", api.MaxPath)}

// The chapter's runs and examples.
func TestRunsAndExamples(t *testing.T) {
	x := made(t, 2, 0)
	makes(t, x, 1, "a", api.Dir, 2)
	notMade(t, x, 1, "b", api.Dir, "", api.NoSpace)
	holds(t, x, 2, api.OK)
	parts(t, x, 1, "a", api.OK)
	finds(t, x, 1, "a", 0)
	counts(t, x, 2, 0, 0)
	if x.Up(2) != 2 || len(x.Names(2)) != 0 {
		t.Errorf("P10.2: a parted Dir: Up %d, %q", x.Up(2), x.Names(2))
	}

	y := made(t, 4, 0)
	makes(t, y, 1, "a", api.Dir, 2)
	makes(t, y, 2, "b", api.File, 3)
	parts(t, y, 1, "a", api.NotEmpty)
	moves(t, y, 1, "a", 1, "a", api.OK)
	moves(t, y, 2, "b", 2, "b", api.OK)
	live(t, y, 1, 2, 3)
}

// P10.1: how many nodes and blocks there may be; the root is one of them.
func TestNew(t *testing.T) {
	for nodes := 1; nodes <= api.MaxNodes; nodes++ {
		for _, blocks := range []int{0, 1, api.MaxBlocks - 1, api.MaxBlocks} {
			x := made(t, nodes, blocks)
			if x.Left() != nodes-1 {
				t.Errorf("P10.1: New(%d, %d): %d left", nodes, blocks, x.Left())
			}
			live(t, x, 1)
			if want, _ := block.New(blocks); nodes > 4 && blocksLeft(x) != want.Left() {
				t.Errorf("P10.1: New(%d, %d): other blocks", nodes, blocks)
			}
		}
	}
	wrong := []int{-1, -2, -api.MaxNodes, 1 << 32, 1<<32 + 1, math.MaxInt, math.MinInt, math.MinInt + 1, api.MaxBlocks + 1}
	for _, n := range wrong {
		for _, c := range [][2]int{{n, 0}, {n, 5}, {1, n}, {api.MaxNodes, n}, {n, n}, {0, n}} {
			if x, why := tree.New(c[0], c[1]); x != nil || why != api.ErrArg {
				t.Errorf("P10.1: New(%d, %d): %v, %v", c[0], c[1], x, why)
			}
		}
	}
	for _, nodes := range []int{0, api.MaxNodes + 1} {
		for _, blocks := range []int{0, 1, api.MaxBlocks} {
			if x, why := tree.New(nodes, blocks); x != nil || why != api.ErrArg {
				t.Errorf("P10.1: New(%d, %d): %v, %v", nodes, blocks, x, why)
			}
		}
	}
}

// P10.1, P10.2: what the root is from the beginning on, and for good.
func TestRoot(t *testing.T) {
	x := made(t, 3, 1)
	if st, live := x.Stat(1); !live || st != (api.Stat{Node: 1, Kind: api.Dir, Mode: 0o755, Links: 2}) {
		t.Errorf("the root: %+v, %v", st, live)
	}
	if x.Up(1) != 1 || len(x.Names(1)) != 0 || x.Text(1) != "" || x.Within(1, 1) {
		t.Errorf("the root: Up %d, %q, %q", x.Up(1), x.Names(1), x.Text(1))
	}
	looses(t, x, 1, api.ErrPast)
	holds(t, x, 1, api.OK)
	holds(t, x, 1, api.OK)
	looses(t, x, 1, api.OK)
	looses(t, x, 1, api.OK)
	looses(t, x, 1, api.ErrPast)
	live(t, x, 1)
	joins(t, x, 1, "self", 1, api.ErrArg)
	makes(t, x, 1, "a", api.Dir, 2)
	joins(t, x, 2, "top", 1, api.ErrArg)
	counts(t, x, 1, 3, 1)
	if x.SetMode(1, 0o1777) != api.OK || x.SetOwner(1, 5, 6) != api.OK {
		t.Error("SetMode, SetOwner of the root")
	}
	if st, _ := x.Stat(1); st != (api.Stat{Node: 1, Kind: api.Dir, Mode: 0o1777, Uid: 5, Gid: 6, Links: 3, Size: 1}) {
		t.Errorf("the root: %+v", st)
	}
	if x.Up(1) != 1 {
		t.Errorf("the root: Up %d", x.Up(1))
	}
}

// noNode makes every call of n, each of which must be refused because of it, whatever else it is given.
func noNode(t *testing.T, x *tree.Tree, n int) {
	t.Helper()
	noDir(t, x, n)
	if st, live := x.Stat(n); live || st != (api.Stat{}) || x.Text(n) != "" {
		t.Errorf("P10.1: Stat(%d): %+v, %v, %q", n, st, live, x.Text(n))
	}
	holds(t, x, n, api.ErrArg)
	looses(t, x, n, api.ErrArg)
	for _, s := range append([]string{"a", "new", "none"}, notRight...) {
		for _, dir := range []int{1, 2, 3, n, -7} {
			joins(t, x, dir, s, n, api.ErrArg)
		}
	}
	for _, v := range []int{-1, 0, 0o777, math.MinInt, math.MaxInt} {
		if x.SetMode(n, v) != api.ErrArg || x.SetOwner(n, v, -v) != api.ErrArg {
			t.Errorf("P10.1: SetMode, SetOwner of %d", n)
		}
	}
	noFile(t, x, n)
}

// noDir makes every call of n that needs a Dir.
func noDir(t *testing.T, x *tree.Tree, n int) {
	t.Helper()
	for _, s := range append([]string{"a", "new", "none"}, notRight...) {
		finds(t, x, n, s, 0)
		parts(t, x, n, s, api.ErrArg)
		for kind := range 5 {
			notMade(t, x, n, s, kind, "", api.ErrArg)
			notMade(t, x, n, s, kind, "text", api.ErrArg)
		}
		for _, m := range []int{1, 2, 3, n, -7} {
			joins(t, x, n, s, m, api.ErrArg)
			for _, other := range []string{"a", "new", "", ".."} {
				moves(t, x, n, s, m, other, api.ErrArg)
				moves(t, x, m, s, n, other, api.ErrArg)
			}
		}
	}
	if names := x.Names(n); len(names) != 0 || x.Up(n) != 0 {
		t.Errorf("P10.1: of no Dir %d: %q, Up %d", n, names, x.Up(n))
	}
	for _, m := range []int{1, 2, 3, 4, 5, n, -7} {
		if x.Within(n, m) || x.Within(m, n) {
			t.Errorf("P10.1: Within of no Dir %d, %d", n, m)
		}
	}
}

// noFile makes every call of n that needs a File.
func noFile(t *testing.T, x *tree.Tree, n int) {
	t.Helper()
	for _, at := range []int{math.MinInt, -1, 0, 3, api.MaxSize, api.MaxSize + 1, math.MaxInt} {
		for _, most := range []int{math.MinInt, -1, 0, 1, math.MaxInt} {
			if b, why := x.Read(n, at, most); len(b) != 0 || why != api.ErrArg {
				t.Errorf("P10.5: Read(%d, %d, %d): %q, %v", n, at, most, b, why)
			}
		}
		for _, size := range []int{0, 1, 5 * edge, api.MaxSize + 1} {
			if why := x.Write(n, at, letters(size)); why != api.ErrArg {
				t.Errorf("P10.5: Write(%d, %d, %d bytes): %v", n, at, size, why)
			}
		}
		if why := x.Cut(n, at); why != api.ErrArg {
			t.Errorf("P10.5: Cut(%d, %d): %v", n, at, why)
		}
	}
}

// P10.1: calls of what is not live, or no Dir, or no File, are refused ahead of all else, and turn nothing.
func TestNoNode(t *testing.T) {
	x := made(t, 9, 2)
	makes(t, x, 1, "a", api.Dir, 2)
	makes(t, x, 1, "f", api.File, 3)
	x.Make(1, "s", api.Stat{Kind: api.Symlink}, "text")
	makes(t, x, 1, "gone", api.Dir, 5)
	makes(t, x, 1, "gone2", api.File, 6)
	makes(t, x, 2, "held", api.Dir, 7)
	x.Write(3, 0, []byte("bytes"))
	x.Write(6, 0, []byte("bytes"))
	parts(t, x, 1, "gone", api.OK)
	parts(t, x, 1, "gone2", api.OK)
	holds(t, x, 7, api.OK)
	parts(t, x, 2, "held", api.OK)
	was := look(x, 9)
	for _, n := range []int{0, -1, -2, 5, 6, 8, 9, 64, 65, 1 << 32, 1<<32 + 1, math.MaxInt, math.MinInt, math.MinInt + 1} {
		noNode(t, x, n)
	}
	noDir(t, x, 3)
	noDir(t, x, 4)
	noFile(t, x, 1)
	noFile(t, x, 2)
	noFile(t, x, 4)
	noFile(t, x, 7)
	if is := look(x, 9); is != was {
		t.Errorf("P10.1: %s, want %s", is, was)
	}
	looses(t, x, 3, api.ErrPast)
	makes(t, x, 1, "new", api.Dir, 8)
	if got := blocksLeft(x); got != 1 {
		t.Errorf("P10.1: %d blocks left", got)
	}
}

// P10.3: Make of each kind; what it takes of the Stat, and what it does not.
func TestMakeKinds(t *testing.T) {
	for kind := api.Dir; kind <= api.Symlink; kind++ {
		for _, mode := range []int{0, 0o644, 0o1777, 0o7777, 0o10000, 0o17755, -1, math.MaxInt, math.MinInt, math.MinInt + 0o123} {
			x := made(t, 3, 1)
			n, why := x.Make(1, "n", api.Stat{Node: 9, Kind: kind, Mode: mode, Uid: -3, Gid: math.MaxInt, Links: 7, Size: 8}, "")
			want := api.Stat{Node: 2, Kind: kind, Mode: mode & 0o7777, Uid: -3, Gid: math.MaxInt, Links: 1}
			if kind == api.Dir {
				want.Links = 2
			}
			if st, live := x.Stat(2); n != 2 || why != api.OK || !live || st != want {
				t.Errorf("P10.3: Make of kind %d, mode %o: %d, %v, %+v, want %+v", kind, mode, n, why, st, want)
			}
			finds(t, x, 1, "n", 2)
			live(t, x, 1, 2)
			if x.Left() != 1 {
				t.Errorf("P10.5: Left %d", x.Left())
			}
		}
	}
}

// P10.3: which kinds there are, and that none but a Symlink has a text, which may be any.
func TestMakeText(t *testing.T) {
	x := made(t, 20, 1)
	for _, kind := range []int{0, -1, 4, 5, 1 << 32, 1<<32 + 1, math.MaxInt, math.MinInt} {
		notMade(t, x, 1, "n", kind, "", api.ErrArg)
		notMade(t, x, 1, "n", kind, "text", api.ErrArg)
	}
	for _, text := range []string{"t", "\x00", " ", strings.Repeat("t", 5000)} {
		notMade(t, x, 1, "n", api.Dir, text, api.ErrArg)
		notMade(t, x, 1, "n", api.File, text, api.ErrArg)
	}
	live(t, x, 1)
	for i, text := range []string{"", "t", "..", "/", "\x00", "a//b/", "\xff\xfe", strings.Repeat("t", api.MaxPath+1), strings.Repeat("\x00", 100000)} {
		n, why := x.Make(1, fmt.Sprint(i), api.Stat{Kind: api.Symlink}, text)
		if n != i+2 || why != api.OK || x.Text(n) != text {
			t.Errorf("P10.3: a text of %d bytes: %d, %v, %d bytes", len(text), n, why, len(x.Text(n)))
		}
		counts(t, x, n, 1, len(text))
	}
	makes(t, x, 1, "f", api.File, 11)
	if x.Text(11) != "" || x.Text(1) != "" || x.Text(12) != "" {
		t.Error("P10.5: Text of what is no Symlink")
	}
}

// P10.3: names that are not Right; the longest and oddest that are.
func TestMakeNames(t *testing.T) {
	x := made(t, 20, 1)
	makes(t, x, 1, "f", api.File, 2)
	for _, s := range notRight {
		for kind := range 5 {
			notMade(t, x, 1, s, kind, "", api.ErrArg)
		}
		joins(t, x, 1, s, 2, api.ErrArg)
		moves(t, x, 1, "f", 1, s, api.ErrArg)
		moves(t, x, 1, "none", 1, s, api.ErrArg)
		finds(t, x, 1, s, 0)
		parts(t, x, 1, s, api.NoEnt)
		moves(t, x, 1, s, 1, "n", api.NoEnt)
		moves(t, x, 1, s, 1, s, api.ErrArg)
	}
	right := []string{"...", ".a", "..a", " ", "\xff", "\x01", "é", "a.", strings.Repeat("x", api.MaxName), strings.Repeat("x", api.MaxName-1)}
	for i, s := range right {
		makes(t, x, 1, s, api.File, 3+i)
		finds(t, x, 1, s, 3+i)
	}
	want := append(right, "f")
	slices.Sort(want)
	if got := x.Names(1); !slices.Equal(got, want) {
		t.Errorf("P10.2: Names: %q, want %q", got, want)
	}
}

// P10.2: Names in order of bytes, in whichever order they came, and Size how many.
func TestNamesInOrder(t *testing.T) {
	sorted := []string{"\x01", "-", "0", "10", "9", "A", "Z", "a", "aa", "ab", "b", "z", "\x7f", "\x80", "é", "\xff"}
	for start := range sorted {
		for _, stride := range []int{1, 3, 5, 7, 9, 11, 15} {
			x := made(t, 40, 0)
			at := start
			for i := range sorted {
				makes(t, x, 1, sorted[at], api.File, 2+i)
				counts(t, x, 1, 2, i+1)
				at = (at + stride) % len(sorted)
			}
			if got := x.Names(1); !slices.Equal(got, sorted) {
				t.Fatalf("P10.2: Names: %q, want %q", got, sorted)
			}
			parts(t, x, 1, sorted[start], api.OK)
			moves(t, x, 1, sorted[(start+1)%len(sorted)], 1, sorted[start], api.OK)
			want := slices.Delete(slices.Clone(sorted), (start+1)%len(sorted), (start+1)%len(sorted)+1)
			if got := x.Names(1); !slices.Equal(got, want) {
				t.Fatalf("P10.2: Names: %q, want %q", got, want)
			}
		}
	}
}

// P10.3: the order of Make's refusals: all that may apply together, the first one of which is told.
func TestMakeRefuses(t *testing.T) {
	x := filled(t, 17)
	if x.Left() != 0 {
		t.Fatalf("Left: %d", x.Left())
	}
	was := look(x, 20)
	notMade(t, x, 2, "..", api.Dir, "", api.ErrArg)
	notMade(t, x, 2, "s1", 0, "", api.ErrArg)
	notMade(t, x, 2, "s1", api.Dir, "text", api.ErrArg)
	notMade(t, x, 2, "s1", api.Dir, "", api.Exists)
	notMade(t, x, 2, "s1", api.File, "", api.Exists)
	notMade(t, x, 2, "s1", api.Symlink, "text", api.Exists)
	notMade(t, x, 2, "new", api.Dir, "", api.ManyLinks)
	notMade(t, x, 2, "new", api.File, "", api.NoSpace)
	notMade(t, x, 2, "new", api.Symlink, "", api.NoSpace)
	notMade(t, x, 1, "new", api.Dir, "", api.NoSpace)
	if is := look(x, 20); is != was {
		t.Errorf("P10.3: %s, want %s", is, was)
	}
	holds(t, x, 17, api.OK)
	parts(t, x, 1, "d2", api.OK)
	was = look(x, 20)
	notMade(t, x, 17, "", api.Dir, "", api.ErrArg)
	notMade(t, x, 17, "new", 4, "", api.ErrArg)
	notMade(t, x, 17, "new", api.File, "t", api.ErrArg)
	for kind := api.Dir; kind <= api.Symlink; kind++ {
		notMade(t, x, 17, "new", kind, "", api.NoEnt)
	}
	if is := look(x, 20); is != was {
		t.Errorf("P10.3: %s, want %s", is, was)
	}
	looses(t, x, 17, api.OK)
	makes(t, x, 2, "new", api.File, 18)
	notMade(t, x, 1, "more", api.File, "", api.NoSpace)
	parts(t, x, 2, "s3", api.OK)
	makes(t, x, 2, "new2", api.Dir, 19)
	counts(t, x, 2, api.MaxLinks, 15)
}

// P10.2, P10.3: a Dir's Links count the Dirs in it alone, up to MaxLinks; the root's, too.
func TestLinksOfDirs(t *testing.T) {
	for _, dir := range []int{1, 2} {
		x := made(t, api.MaxNodes, 0)
		makes(t, x, 1, "d", api.Dir, 2)
		links, size := 2, 0
		if dir == 1 {
			links, size = 3, 1
		}
		for n := 3; links < api.MaxLinks; n += 3 {
			makes(t, x, dir, fmt.Sprint("d", n), api.Dir, n)
			makes(t, x, dir, fmt.Sprint("f", n), api.File, n+1)
			makes(t, x, dir, fmt.Sprint("s", n), api.Symlink, n+2)
			links, size = links+1, size+3
			counts(t, x, dir, links, size)
			counts(t, x, n, 2, 0)
		}
		notMade(t, x, dir, "more", api.Dir, "", api.ManyLinks)
		if n, why := x.Make(dir, "file", api.Stat{Kind: api.File}, ""); why != api.OK || x.Join(dir, "file2", n) != api.OK {
			t.Errorf("P10.3: a File in a full Dir: %v", why)
		}
		parts(t, x, dir, "d6", api.OK)
		counts(t, x, dir, api.MaxLinks-1, size+1)
		if _, why := x.Make(dir, "more", api.Stat{Kind: api.Dir}, ""); why != api.OK {
			t.Errorf("P10.3: a Dir where one was: %v", why)
		}
		counts(t, x, dir, api.MaxLinks, size+2)
	}
}

// P10.3: as many nodes as may be, and not one more, whatever the kind; a node that is held counts.
func TestMakeNoSpace(t *testing.T) {
	for nodes := 1; nodes <= api.MaxNodes; nodes++ {
		x := made(t, nodes, 0)
		for n := 2; n <= nodes; n++ {
			if x.Left() != nodes-n+1 {
				t.Fatalf("P10.5: Left %d", x.Left())
			}
			makes(t, x, 1, fmt.Sprint(n), api.File+n%2, n)
		}
		for kind := api.Dir; kind <= api.Symlink; kind++ {
			notMade(t, x, 1, "more", kind, "", api.NoSpace)
		}
		if x.Left() != 0 || len(x.Live()) != nodes {
			t.Fatalf("P10.5: Left %d, %v", x.Left(), x.Live())
		}
		if nodes == 1 {
			continue
		}
		holds(t, x, 2, api.OK)
		parts(t, x, 1, "2", api.OK)
		notMade(t, x, 1, "more", api.File, "", api.NoSpace)
		joins(t, x, 1, "again", 2, api.OK)
		looses(t, x, 2, api.OK)
		notMade(t, x, 1, "more", api.File, "", api.NoSpace)
		parts(t, x, 1, "again", api.OK)
		makes(t, x, 1, "more", api.File, nodes+1)
	}
}

// P10.1: a number never comes again, and refused calls use none up.
func TestNumbers(t *testing.T) {
	x := made(t, 2, 0)
	for n := 2; n < 300; n++ {
		makes(t, x, 1, "a", api.Dir+n%3, n)
		notMade(t, x, 1, "b", api.File, "", api.NoSpace)
		notMade(t, x, 1, "a", api.File, "", api.Exists)
		live(t, x, 1, n)
		parts(t, x, 1, "a", api.OK)
		if _, live := x.Stat(n); live {
			t.Errorf("P10.1: %d is live", n)
		}
	}
	live(t, x, 1)
}

// P10.3: Join of a File and of a Symlink, up to MaxLinks names, in one Dir and in several.
func TestJoin(t *testing.T) {
	x := made(t, 9, 0)
	makes(t, x, 1, "d", api.Dir, 2)
	makes(t, x, 1, "f", api.File, 3)
	makes(t, x, 1, "s", api.Symlink, 4)
	for i := 2; i <= api.MaxLinks; i++ {
		for n := 3; n <= 4; n++ {
			joins(t, x, 1+i%2, fmt.Sprint("n", i, n), n, api.OK)
			counts(t, x, n, i, 0)
			finds(t, x, 1+i%2, fmt.Sprint("n", i, n), n)
		}
	}
	was := look(x, 6)
	for n := 3; n <= 4; n++ {
		joins(t, x, 2, "more", n, api.ManyLinks)
		joins(t, x, 1, "f", n, api.Exists)
		joins(t, x, 1, "d", n, api.Exists)
		joins(t, x, 1, "..", n, api.ErrArg)
	}
	joins(t, x, 1, "f", 1, api.ErrArg)
	joins(t, x, 1, "new", 1, api.ErrArg)
	joins(t, x, 1, "f", 2, api.ErrArg)
	joins(t, x, 1, "new", 2, api.ErrArg)
	if is := look(x, 6); is != was {
		t.Errorf("P10.3: %s, want %s", is, was)
	}
	parts(t, x, 1, "f", api.OK)
	joins(t, x, 2, "more", 3, api.OK)
	counts(t, x, 3, api.MaxLinks, 0)
	joins(t, x, 2, "more2", 3, api.ManyLinks)
	if x.Left() != 5 {
		t.Errorf("P10.5: Left %d", x.Left())
	}
}

// P10.3: Join into a Dir without a name, which comes ahead of ManyLinks.
func TestJoinIntoNameless(t *testing.T) {
	x := made(t, 9, 0)
	makes(t, x, 1, "d", api.Dir, 2)
	makes(t, x, 1, "f", api.File, 3)
	holds(t, x, 2, api.OK)
	parts(t, x, 1, "d", api.OK)
	joins(t, x, 2, "n", 3, api.NoEnt)
	for i := 1; i < api.MaxLinks; i++ {
		joins(t, x, 1, fmt.Sprint("n", i), 3, api.OK)
	}
	joins(t, x, 1, "n", 3, api.ManyLinks)
	joins(t, x, 2, "n", 3, api.NoEnt)
	joins(t, x, 2, "", 3, api.ErrArg)
	joins(t, x, 2, "n", 2, api.ErrArg)
	live(t, x, 1, 2, 3)
	counts(t, x, 2, 0, 0)
	counts(t, x, 3, api.MaxLinks, 0)
}

// P10.3, P10.5: a held node without names may have one again, and is live by it then.
func TestJoinOfNameless(t *testing.T) {
	for _, kind := range []int{api.File, api.Symlink} {
		x := made(t, 4, 1)
		makes(t, x, 1, "n", kind, 2)
		holds(t, x, 2, api.OK)
		parts(t, x, 1, "n", api.OK)
		counts(t, x, 2, 0, 0)
		joins(t, x, 1, "again", 2, api.OK)
		counts(t, x, 2, 1, 0)
		looses(t, x, 2, api.OK)
		looses(t, x, 2, api.ErrPast)
		live(t, x, 1, 2)
		joins(t, x, 1, "two", 2, api.OK)
		parts(t, x, 1, "again", api.OK)
		counts(t, x, 2, 1, 0)
		parts(t, x, 1, "two", api.OK)
		live(t, x, 1)
	}
}

// P10.4: Part of what is there and what is not, of a Dir that holds a name of any kind.
func TestPart(t *testing.T) {
	for kind := api.Dir; kind <= api.Symlink; kind++ {
		x := made(t, 9, 0)
		makes(t, x, 1, "d", api.Dir, 2)
		makes(t, x, 2, "n", kind, 3)
		was := look(x, 4)
		parts(t, x, 1, "d", api.NotEmpty)
		holds(t, x, 2, api.OK)
		parts(t, x, 1, "d", api.NotEmpty)
		looses(t, x, 2, api.OK)
		parts(t, x, 1, "n", api.NoEnt)
		parts(t, x, 2, "d", api.NoEnt)
		parts(t, x, 2, "N", api.NoEnt)
		parts(t, x, 2, "", api.NoEnt)
		if is := look(x, 4); is != was {
			t.Errorf("P10.4: %s, want %s", is, was)
		}
		parts(t, x, 2, "n", api.OK)
		parts(t, x, 2, "n", api.NoEnt)
		counts(t, x, 2, 2, 0)
		live(t, x, 1, 2)
		parts(t, x, 1, "d", api.OK)
		counts(t, x, 1, 2, 0)
		live(t, x, 1)
		if x.Left() != 8 {
			t.Errorf("P10.5: Left %d", x.Left())
		}
	}
}

// P10.4: a File that has another name is live without this one.
func TestPartOfOneName(t *testing.T) {
	x := made(t, 3, 1)
	makes(t, x, 1, "f", api.File, 2)
	x.Write(2, 0, []byte("bytes"))
	joins(t, x, 1, "g", 2, api.OK)
	counts(t, x, 2, 2, 5)
	parts(t, x, 1, "f", api.OK)
	counts(t, x, 2, 1, 5)
	if b, why := x.Read(2, 0, 9); string(b) != "bytes" || why != api.OK {
		t.Errorf("P10.4: %q, %v", b, why)
	}
	parts(t, x, 1, "g", api.OK)
	noNode(t, x, 2)
}

// P10.5: held to and fro; a node ends with the last of its names and holders, whichever that is.
func TestHoldAndLoose(t *testing.T) {
	for kind := api.Dir; kind <= api.Symlink; kind++ {
		for times := range 5 {
			x := made(t, 2, 0)
			makes(t, x, 1, "n", kind, 2)
			looses(t, x, 2, api.ErrPast)
			for range times {
				holds(t, x, 2, api.OK)
				looses(t, x, 2, api.OK)
				holds(t, x, 2, api.OK)
			}
			parts(t, x, 1, "n", api.OK)
			for range times {
				live(t, x, 1, 2)
				counts(t, x, 2, 0, 0)
				holds(t, x, 2, api.OK)
				looses(t, x, 2, api.OK)
				looses(t, x, 2, api.OK)
			}
			live(t, x, 1)
			looses(t, x, 2, api.ErrArg)
			holds(t, x, 2, api.ErrArg)
		}
		x := made(t, 2, 0)
		makes(t, x, 1, "n", kind, 2)
		holds(t, x, 2, api.OK)
		looses(t, x, 2, api.OK)
		looses(t, x, 2, api.ErrPast)
		live(t, x, 1, 2)
		parts(t, x, 1, "n", api.OK)
		live(t, x, 1)
	}
}

// P10.2: a held Dir without a name: Links and Size 0, its own Up, within nothing, and nothing comes into it.
func TestNamelessDir(t *testing.T) {
	x := made(t, 9, 0)
	makes(t, x, 1, "a", api.Dir, 2)
	makes(t, x, 2, "b", api.Dir, 3)
	makes(t, x, 1, "f", api.File, 4)
	makes(t, x, 1, "e", api.Dir, 5)
	holds(t, x, 3, api.OK)
	parts(t, x, 2, "b", api.OK)
	counts(t, x, 3, 0, 0)
	counts(t, x, 2, 2, 0)
	if x.Up(3) != 3 || x.Within(3, 2) || x.Within(3, 1) || x.Within(3, 3) || x.Within(2, 3) {
		t.Errorf("P10.2: Up %d", x.Up(3))
	}
	was := look(x, 9)
	notMade(t, x, 3, "n", api.File, "", api.NoEnt)
	joins(t, x, 3, "n", 4, api.NoEnt)
	moves(t, x, 1, "f", 3, "n", api.NoEnt)
	moves(t, x, 1, "e", 3, "n", api.NoEnt)
	moves(t, x, 3, "n", 1, "m", api.NoEnt)
	moves(t, x, 3, "n", 3, "n", api.NoEnt)
	moves(t, x, 1, "f", 3, "", api.ErrArg)
	parts(t, x, 3, "n", api.NoEnt)
	if is := look(x, 9); is != was {
		t.Errorf("P10.2: %s, want %s", is, was)
	}
	if x.SetMode(3, 0o1234) != api.OK || x.SetOwner(3, 8, 9) != api.OK {
		t.Error("SetMode, SetOwner of a held Dir")
	}
	if st, live := x.Stat(3); !live || st != (api.Stat{Node: 3, Kind: api.Dir, Mode: 0o1234, Uid: 8, Gid: 9}) {
		t.Errorf("P10.2: %+v, %v", st, live)
	}
	looses(t, x, 3, api.OK)
	live(t, x, 1, 2, 4, 5)
}

// P10.5: Read, Write and Cut of a File, as block has them, while it has a name and while it is held alone.
func TestBytes(t *testing.T) {
	for _, named := range []bool{true, false} {
		x := made(t, 3, 2)
		p, _ := block.New(2)
		f := p.File()
		makes(t, x, 1, "f", api.File, 2)
		if !named {
			holds(t, x, 2, api.OK)
			parts(t, x, 1, "f", api.OK)
		}
		numbers := []int{math.MinInt, -1, 0, 5, edge, edge + 3, 3 * edge, api.MaxSize - 1, api.MaxSize, api.MaxSize + 1, math.MaxInt}
		for i, at := range numbers {
			for _, n := range numbers {
				b := letters(max(0, min(n, api.MaxSize+5)))
				if got, want := x.Write(2, at, b), p.Write(f, at, b); got != want {
					t.Errorf("P10.5: Write(%d, %d bytes): %v, want %v", at, len(b), got, want)
				}
				got, why := x.Read(2, at, n)
				if want, because := p.Read(f, at, n); string(got) != string(want) || why != because {
					t.Errorf("P10.5: Read(%d, %d): %q, %v, want %q, %v", at, n, got, why, want, because)
				}
				if st, _ := x.Stat(2); st.Size != p.Size(f) {
					t.Errorf("P10.2: Size %d, want %d", st.Size, p.Size(f))
				}
			}
			if got, want := x.Cut(2, numbers[len(numbers)-1-i]), p.Cut(f, numbers[len(numbers)-1-i]); got != want {
				t.Errorf("P10.5: Cut(%d): %v, want %v", numbers[len(numbers)-1-i], got, want)
			}
		}
	}
}

// P10.5: Files have bytes of their own, and share the blocks.
func TestBytesOfSeveral(t *testing.T) {
	x := made(t, 6, 2)
	makes(t, x, 1, "d", api.Dir, 2)
	makes(t, x, 1, "f", api.File, 3)
	makes(t, x, 1, "s", api.Symlink, 4)
	makes(t, x, 1, "g", api.File, 5)
	if x.Write(3, 0, []byte("three")) != api.OK || x.Write(5, 2, []byte("five")) != api.OK || x.Write(3, edge, []byte("x")) != api.NoSpace || x.Write(5, edge-1, []byte("xy")) != api.NoSpace {
		t.Error("P10.5: Write")
	}
	three, _ := x.Read(3, 0, 99)
	five, _ := x.Read(5, 0, 99)
	if string(three) != "three" || string(five) != "\x00\x00five" {
		t.Errorf("P10.5: %q, %q", three, five)
	}
	counts(t, x, 3, 1, 5)
	counts(t, x, 5, 1, 6)
	noFile(t, x, 2)
	noFile(t, x, 4)
	if x.Cut(5, 0) != api.OK || x.Write(3, edge, []byte("x")) != api.OK {
		t.Error("P10.5: a block that was given back")
	}
}

// P10.1, P10.5: a node's blocks are free when it is live no more: by Part, by Move onto it, by Loose; and not ahead of that.
func TestBlocksAreFree(t *testing.T) {
	full := func() *tree.Tree {
		x := made(t, 6, 3)
		makes(t, x, 1, "f", api.File, 2)
		makes(t, x, 1, "g", api.File, 3)
		makes(t, x, 1, "h", api.File, 4)
		if x.Write(2, 0, letters(2*edge)) != api.OK || x.Write(4, 0, []byte("h")) != api.OK || x.Write(3, 0, []byte("x")) != api.NoSpace {
			t.Error("Write")
		}
		return x
	}
	x := full()
	parts(t, x, 1, "f", api.OK)
	if got := blocksLeft(x); got != 2 {
		t.Errorf("P10.1: by Part: %d", got)
	}
	x = full()
	moves(t, x, 1, "g", 1, "f", api.OK)
	live(t, x, 1, 3, 4)
	if got := blocksLeft(x); got != 2 {
		t.Errorf("P10.4: by Move: %d", got)
	}
	x = full()
	holds(t, x, 2, api.OK)
	moves(t, x, 1, "g", 1, "f", api.OK)
	live(t, x, 1, 2, 3, 4)
	if b, _ := x.Read(2, 0, 99); x.Write(3, 0, []byte("x")) != api.NoSpace || string(b) != string(letters(2*edge)) {
		t.Errorf("P10.5: while it is held: %q", b)
	}
	looses(t, x, 2, api.OK)
	if got := blocksLeft(x); got != 2 {
		t.Errorf("P10.5: by Loose: %d", got)
	}
	x = full()
	joins(t, x, 1, "k", 2, api.OK)
	parts(t, x, 1, "f", api.OK)
	if x.Write(3, 0, []byte("x")) != api.NoSpace {
		t.Error("P10.1: while it has another name")
	}
	parts(t, x, 1, "k", api.OK)
	if got := blocksLeft(x); got != 2 {
		t.Errorf("P10.1: by Part of the last name: %d", got)
	}
	if b, _ := x.Read(4, 0, 9); string(b) != "h" {
		t.Errorf("P10.1: another one's bytes: %q", b)
	}
}

// P10: SetMode keeps twelve bits, SetOwner any numbers; nothing else of the node turns.
func TestSetModeAndOwner(t *testing.T) {
	x := made(t, 5, 1)
	makes(t, x, 1, "d", api.Dir, 2)
	makes(t, x, 1, "f", api.File, 3)
	makes(t, x, 1, "s", api.Symlink, 4)
	for n := 1; n <= 4; n++ {
		for _, v := range []int{0, 1, 0o644, 0o1777, 0o7777, 0o10000, 0o17777, -1, -2, math.MaxInt, math.MinInt, math.MinInt + 5} {
			want, _ := x.Stat(n)
			want.Mode = v & 0o7777
			if why := x.SetMode(n, v); why != api.OK {
				t.Errorf("SetMode(%d, %o): %v", n, v, why)
			}
			if got, _ := x.Stat(n); got != want {
				t.Errorf("SetMode(%d, %o): %+v, want %+v", n, v, got, want)
			}
			want.Uid, want.Gid = v, v+1
			if why := x.SetOwner(n, v, v+1); why != api.OK {
				t.Errorf("SetOwner(%d, %d): %v", n, v, why)
			}
			if got, _ := x.Stat(n); got != want {
				t.Errorf("SetOwner(%d, %d): %+v, want %+v", n, v, got, want)
			}
		}
	}
}

// deep answers /a (2), /a/b (3), /a/b/c (4), /f (5), /e (6), /a/g (7), /s (8).
func deep(t *testing.T) *tree.Tree {
	t.Helper()
	x := made(t, 64, 4)
	makes(t, x, 1, "a", api.Dir, 2)
	makes(t, x, 2, "b", api.Dir, 3)
	makes(t, x, 3, "c", api.Dir, 4)
	makes(t, x, 1, "f", api.File, 5)
	makes(t, x, 1, "e", api.Dir, 6)
	makes(t, x, 2, "g", api.File, 7)
	makes(t, x, 1, "s", api.Symlink, 8)
	return x
}

// P10.5: Within of all pairs; a File is within nothing, for it has no Up.
func TestWithin(t *testing.T) {
	x := deep(t)
	above := map[int][]int{2: {1}, 3: {2, 1}, 4: {3, 2, 1}, 6: {1}}
	for n := -1; n <= 10; n++ {
		for dir := -1; dir <= 10; dir++ {
			if got, want := x.Within(n, dir), slices.Contains(above[n], dir); got != want {
				t.Errorf("P10.5: Within(%d, %d): %v", n, dir, got)
			}
		}
	}
	moves(t, x, 2, "b", 6, "b", api.OK)
	if !x.Within(4, 6) || x.Within(4, 2) || !x.Within(3, 6) || x.Within(2, 6) || x.Up(3) != 6 || x.Up(4) != 3 {
		t.Error("P10.5: Within behind a Move")
	}
	y := made(t, api.MaxNodes, 0)
	for n := 1; n < api.MaxNodes; n++ {
		makes(t, y, n, "d", api.Dir, n+1)
	}
	for n := 1; n <= api.MaxNodes; n++ {
		for dir := 1; dir <= api.MaxNodes; dir++ {
			if y.Within(n, dir) != (dir < n) {
				t.Errorf("P10.5: Within(%d, %d)", n, dir)
			}
		}
	}
	parts(t, y, 1, "d", api.NotEmpty)
	moves(t, y, 1, "d", api.MaxNodes, "d", api.Invalid)
}

// P10.4: refusals of Move, which come first, and that nothing turned.
func TestMoveRefuses(t *testing.T) {
	x := deep(t)
	makes(t, x, 1, "lost", api.Dir, 9)
	holds(t, x, 9, api.OK)
	parts(t, x, 1, "lost", api.OK)
	was := look(x, 12)
	rows := []struct {
		dir int
		s   string
		to  int
		as  string
		why api.Errno
	}{
		{5, "f", 1, "n", api.ErrArg}, {1, "f", 5, "n", api.ErrArg}, {1, "f", 8, "n", api.ErrArg}, {8, "none", 9, "n", api.ErrArg}, {1, "a", 2, "", api.ErrArg}, {1, "a", 9, ".", api.ErrArg}, {1, "none", 9, "a/b", api.ErrArg}, {10, "a", 2, "x", api.ErrArg}, {1, "a", 10, "x", api.ErrArg},
		{1, "none", 1, "n", api.NoEnt}, {1, "none", 1, "f", api.NoEnt}, {1, "none", 9, "n", api.NoEnt}, {1, "f", 9, "n", api.NoEnt}, {1, "a", 9, "n", api.NoEnt}, {1, "", 1, "n", api.NoEnt}, {1, "..", 1, "n", api.NoEnt}, {2, "..", 1, "n", api.NoEnt}, {9, "n", 1, "n", api.NoEnt}, {9, "n", 9, "n", api.NoEnt}, {6, "none", 1, "none", api.NoEnt},
		{1, "a", 2, "n", api.Invalid}, {1, "a", 3, "n", api.Invalid}, {1, "a", 4, "n", api.Invalid}, {2, "b", 3, "n", api.Invalid}, {2, "b", 4, "n", api.Invalid}, {1, "a", 2, "b", api.Invalid}, {1, "a", 2, "g", api.Invalid}, {1, "a", 3, "c", api.Invalid}, {1, "e", 6, "e", api.Invalid}, {3, "c", 4, "c", api.Invalid},
		{1, "a", 1, "f", api.NotDir}, {1, "e", 1, "s", api.NotDir}, {3, "c", 2, "g", api.NotDir}, {1, "e", 2, "g", api.NotDir},
		{1, "f", 1, "e", api.IsDir}, {1, "f", 1, "a", api.IsDir}, {1, "s", 2, "b", api.IsDir}, {2, "g", 1, "a", api.IsDir}, {2, "g", 3, "c", api.IsDir},
		{1, "e", 1, "a", api.NotEmpty}, {1, "e", 2, "b", api.NotEmpty}, {2, "b", 1, "a", api.NotEmpty}, {3, "c", 1, "a", api.NotEmpty}, {3, "c", 2, "b", api.NotEmpty},
	}
	for _, c := range rows {
		moves(t, x, c.dir, c.s, c.to, c.as, c.why)
		if is := look(x, 12); is != was {
			t.Fatalf("P10.4: Move(%d, %q, %d, %q) turned something: %s, want %s", c.dir, c.s, c.to, c.as, is, was)
		}
	}
}

// P10.4: Move onto itself, and onto another name of the same node: OK, and nothing turns.
func TestMoveOntoTheSame(t *testing.T) {
	x := deep(t)
	joins(t, x, 2, "f2", 5, api.OK)
	joins(t, x, 1, "f3", 5, api.OK)
	holds(t, x, 5, api.OK)
	was := look(x, 9)
	moves(t, x, 1, "f", 1, "f", api.OK)
	moves(t, x, 1, "a", 1, "a", api.OK)
	moves(t, x, 1, "e", 1, "e", api.OK)
	moves(t, x, 1, "s", 1, "s", api.OK)
	moves(t, x, 1, "f", 2, "f2", api.OK)
	moves(t, x, 2, "f2", 1, "f", api.OK)
	moves(t, x, 1, "f3", 1, "f", api.OK)
	if is := look(x, 9); is != was {
		t.Errorf("P10.4: %s, want %s", is, was)
	}
	looses(t, x, 5, api.OK)
	looses(t, x, 5, api.ErrPast)
}

// P10.4: Move of a File to a new name, in the same Dir and in another; its names are as many as before.
func TestMoveOfAFile(t *testing.T) {
	x := deep(t)
	x.Write(5, 0, []byte("bytes"))
	moves(t, x, 1, "f", 1, "A", api.OK)
	finds(t, x, 1, "f", 0)
	finds(t, x, 1, "A", 5)
	moves(t, x, 1, "A", 4, "z", api.OK)
	finds(t, x, 1, "A", 0)
	finds(t, x, 4, "z", 5)
	counts(t, x, 5, 1, 5)
	counts(t, x, 1, 4, 3)
	counts(t, x, 4, 2, 1)
	if b, _ := x.Read(5, 0, 9); string(b) != "bytes" {
		t.Errorf("P10.4: %q", b)
	}
	moves(t, x, 4, "z", 2, "g", api.OK)
	live(t, x, 1, 2, 3, 4, 5, 6, 8)
	counts(t, x, 5, 1, 5)
	counts(t, x, 2, 3, 2)
	counts(t, x, 4, 2, 0)
	moves(t, x, 1, "s", 2, "g", api.OK)
	live(t, x, 1, 2, 3, 4, 6, 8)
	finds(t, x, 2, "g", 8)
}

// P10.4: what as was loses one name, and is live by its others, or by who holds it.
func TestMoveOntoWhatStays(t *testing.T) {
	x := deep(t)
	joins(t, x, 6, "g2", 7, api.OK)
	moves(t, x, 1, "f", 2, "g", api.OK)
	counts(t, x, 7, 1, 0)
	finds(t, x, 6, "g2", 7)
	finds(t, x, 2, "g", 5)
	holds(t, x, 7, api.OK)
	moves(t, x, 2, "g", 6, "g2", api.OK)
	counts(t, x, 7, 0, 0)
	live(t, x, 1, 2, 3, 4, 5, 6, 7, 8)
	looses(t, x, 7, api.OK)
	live(t, x, 1, 2, 3, 4, 5, 6, 8)

	y := deep(t)
	holds(t, y, 6, api.OK)
	moves(t, y, 2, "b", 1, "e", api.OK)
	counts(t, y, 6, 0, 0)
	if y.Up(6) != 6 || y.Up(3) != 1 || y.Within(6, 1) {
		t.Errorf("P10.4: Up %d, %d", y.Up(6), y.Up(3))
	}
	notMade(t, y, 6, "n", api.File, "", api.NoEnt)
	finds(t, y, 1, "e", 3)
	finds(t, y, 2, "b", 0)
	counts(t, y, 1, 4, 4)
	counts(t, y, 2, 2, 1)
	looses(t, y, 6, api.OK)
	live(t, y, 1, 2, 3, 4, 5, 7, 8)
}

// P10.4: Move of a Dir, with all that is in it: Links of both Dirs, and its Up.
func TestMoveOfADir(t *testing.T) {
	x := deep(t)
	moves(t, x, 2, "b", 6, "z", api.OK)
	counts(t, x, 2, 2, 1)
	counts(t, x, 6, 3, 1)
	counts(t, x, 3, 3, 1)
	if x.Up(3) != 6 || x.Up(4) != 3 {
		t.Errorf("P10.4: Up %d, %d", x.Up(3), x.Up(4))
	}
	moves(t, x, 6, "z", 6, "y", api.OK)
	counts(t, x, 6, 3, 1)
	finds(t, x, 6, "z", 0)
	finds(t, x, 6, "y", 3)
	moves(t, x, 3, "c", 1, "c", api.OK)
	counts(t, x, 1, 5, 5)
	moves(t, x, 6, "y", 1, "c", api.OK)
	live(t, x, 1, 2, 3, 5, 6, 7, 8)
	counts(t, x, 1, 5, 5)
	counts(t, x, 6, 2, 0)
	counts(t, x, 3, 2, 0)
	moves(t, x, 1, "a", 3, "a", api.OK)
	moves(t, x, 1, "c", 2, "c", api.Invalid)
	if x.Up(2) != 3 || !x.Within(2, 3) || x.Within(3, 2) {
		t.Errorf("P10.4: Up %d", x.Up(2))
	}
}

// P10.4: a Dir with MaxLinks Links takes no more Dirs by Move, but those that it has, in place of others, and what is no Dir.
func TestMoveManyLinks(t *testing.T) {
	x := filled(t, 40)
	makes(t, x, 17, "in", api.Dir, 18)
	makes(t, x, 17, "f", api.File, 19)
	makes(t, x, 2, "g", api.File, 20)
	was := look(x, 22)
	moves(t, x, 1, "d2", 2, "new", api.ManyLinks)
	moves(t, x, 17, "in", 2, "new", api.ManyLinks)
	moves(t, x, 17, "in", 2, "g", api.NotDir)
	moves(t, x, 17, "none", 2, "new", api.NoEnt)
	moves(t, x, 1, "d", 2, "new", api.Invalid)
	moves(t, x, 1, "d2", 2, "..", api.ErrArg)
	if is := look(x, 22); is != was {
		t.Errorf("P10.4: %s, want %s", is, was)
	}
	moves(t, x, 17, "f", 2, "new", api.OK)
	moves(t, x, 2, "s3", 2, "other", api.OK)
	counts(t, x, 2, api.MaxLinks, 16)
	moves(t, x, 17, "in", 2, "s4", api.OK)
	counts(t, x, 2, api.MaxLinks, 16)
	counts(t, x, 17, 2, 0)
	finds(t, x, 2, "s4", 18)
	moves(t, x, 2, "s5", 2, "s6", api.OK)
	counts(t, x, 2, api.MaxLinks-1, 15)
	moves(t, x, 1, "d2", 2, "new2", api.OK)
	counts(t, x, 2, api.MaxLinks, 16)
	makes(t, x, 1, "late", api.Dir, 21)
	moves(t, x, 1, "late", 2, "new3", api.ManyLinks)
	moves(t, x, 2, "s7", 1, "up", api.OK)
	moves(t, x, 1, "late", 2, "new3", api.OK)
}

// P10.4: the root that is full, as any Dir.
func TestMoveIntoAFullRoot(t *testing.T) {
	x := made(t, 40, 0)
	for i := range api.MaxLinks - 2 {
		makes(t, x, 1, fmt.Sprint("d", i), api.Dir, 2+i)
	}
	makes(t, x, 2, "in", api.Dir, 16)
	moves(t, x, 2, "in", 1, "new", api.ManyLinks)
	moves(t, x, 1, "d1", 1, "new", api.OK)
	moves(t, x, 2, "in", 1, "d5", api.OK)
	counts(t, x, 1, api.MaxLinks, 14)
	moves(t, x, 1, "d0", 1, "new", api.OK)
	counts(t, x, 1, api.MaxLinks-1, 13)
}

// P10.5: Live is rising, whatever came and went.
func TestLiveRises(t *testing.T) {
	x := made(t, api.MaxNodes, 0)
	for n := 2; n <= api.MaxNodes; n++ {
		makes(t, x, 1, fmt.Sprint(n), api.File, n)
	}
	want := []int{1}
	for n := 2; n <= api.MaxNodes; n++ {
		if n%3 == 0 {
			parts(t, x, 1, fmt.Sprint(n), api.OK)
		} else {
			want = append(want, n)
		}
	}
	live(t, x, want...)
	makes(t, x, 1, "new", api.Dir, api.MaxNodes+1)
	live(t, x, append(want, api.MaxNodes+1)...)
	if x.Left() != api.MaxNodes-len(want)-1 {
		t.Errorf("P10.5: Left %d", x.Left())
	}
}

// P10.1: trees have nothing to do with each other.
func TestTwoTrees(t *testing.T) {
	x, y := made(t, 3, 1), made(t, 3, 1)
	makes(t, x, 1, "a", api.File, 2)
	x.Write(2, 0, []byte("x"))
	finds(t, y, 1, "a", 0)
	makes(t, y, 1, "b", api.File, 2)
	if y.Write(2, 0, []byte("y")) != api.OK {
		t.Error("P10.1: blocks of another tree")
	}
	parts(t, x, 1, "a", api.OK)
	if b, _ := y.Read(2, 0, 9); string(b) != "y" {
		t.Errorf("P10.1: %q", b)
	}
	live(t, y, 1, 2)
}

// R2: what is answered is new memory each time, its spare room too.
func TestAnswersAreNewMemory(t *testing.T) {
	x := deep(t)
	x.Write(5, 0, letters(edge+3))
	was := look(x, 9)
	for range 3 {
		for n := 1; n <= 9; n++ {
			names, again := x.Names(n), x.Names(n)
			want := slices.Clone(again)
			spoil(names, "spoiled")
			if !slices.Equal(again, want) {
				t.Fatalf("R2: Names(%d) twice shares memory", n)
			}
			b, _ := x.Read(n, 0, 99)
			spoil(b, '!')
		}
		nodes, again := x.Live(), x.Live()
		spoil(nodes, -9)
		if !slices.Equal(again, []int{1, 2, 3, 4, 5, 6, 7, 8}) {
			t.Fatalf("R2: Live twice shares memory: %v", again)
		}
	}
	if is := look(x, 9); is != was {
		t.Errorf("R2: %s, want %s", is, was)
	}
}

// R2: texts that are answered are new memory, too.
func TestTextsAreNewMemory(t *testing.T) {
	x := made(t, 3, 0)
	makes(t, x, 1, "name", api.Dir, 2)
	x.Make(1, "s", api.Stat{Kind: api.Symlink}, "text")
	if unsafe.StringData(x.Names(1)[0]) == unsafe.StringData(x.Names(1)[0]) {
		t.Error("R2: Names twice shares memory")
	}
	if unsafe.StringData(x.Text(3)) == unsafe.StringData(x.Text(3)) {
		t.Error("R2: Text twice shares memory")
	}
}

// spoil changes all of the list, its spare room too.
func spoil[T any](list []T, v T) {
	list = list[:cap(list)]
	for i := range list {
		list[i] = v
	}
}

// textIn answers a text that lies in the bytes: who keeps it sees them change.
func textIn(b []byte) string { return unsafe.String(&b[0], len(b)) }

// R2: names, texts and bytes that are handed in are neither changed nor kept.
func TestKeepsNothing(t *testing.T) {
	x := made(t, 9, 4)
	given := [][]byte{[]byte("dir"), []byte("link"), []byte("text"), []byte("file"), []byte("join"), []byte("move"), []byte("some bytes and more than a block")}
	x.Make(1, textIn(given[0]), api.Stat{Kind: api.Dir}, "")
	x.Make(1, textIn(given[1]), api.Stat{Kind: api.Symlink}, textIn(given[2]))
	x.Make(2, textIn(given[3]), api.Stat{Kind: api.File}, "")
	joins(t, x, 1, textIn(given[4]), 4, api.OK)
	moves(t, x, 2, "file", 2, textIn(given[5]), api.OK)
	if x.Write(4, 0, given[6][:20]) != api.OK {
		t.Error("Write")
	}
	if got := fmt.Sprintf("%s", given); got != "[dir link text file join move some bytes and more than a block]" {
		t.Errorf("R2: handed in: %s", got)
	}
	was := look(x, 5)
	for _, b := range given {
		spoil(b, '!')
	}
	if is := look(x, 5); is != was {
		t.Errorf("R2: %s, want %s", is, was)
	}
	finds(t, x, 1, "dir", 2)
	finds(t, x, 1, "join", 4)
	finds(t, x, 2, "move", 4)
	if x.Text(3) != "text" {
		t.Errorf("R2: %q", x.Text(3))
	}
}
