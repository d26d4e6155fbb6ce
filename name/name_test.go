package name_test

import (
	"fmt"
	"slices"
	"strings"
	"testing"
	"unsafe"

	"warren/api"
	"warren/name"
)

// xs answers a text of so many letters.
func xs(n int) string { return strings.Repeat("x", n) }

// slashes answers a text of so many slashes.
func slashes(n int) string { return strings.Repeat("/", n) }

// brief shortens a text for a test's words.
func brief(s string) string {
	if len(s) <= 40 {
		return s
	}
	return s[:20] + ".." + s[len(s)-20:]
}

// show tells a path, of long ones some.
func show(p name.Path) string {
	return fmt.Sprintf("root %v, slash %v, %d parts: %.40q", p.Root, p.Slash, len(p.Parts), p.Parts[:min(len(p.Parts), 10)])
}

// same holds two paths against each other; nil and empty lists are the same.
func same(p, q name.Path) bool {
	return p.Root == q.Root && p.Slash == q.Slash && slices.Equal(p.Parts, q.Parts)
}

// reads lets Read answer just these parts.
func reads(t *testing.T, s string, root, slash bool, parts ...string) {
	t.Helper()
	want := name.Path{Root: root, Slash: slash, Parts: parts}
	if p, why := name.Read(s); why != api.OK || !same(p, want) {
		t.Errorf("Read(%q) of %d bytes: %s, %v, want %s", brief(s), len(s), show(p), why, show(want))
	}
}

// refused lets Read and Clean answer that refusal, and nothing beside it.
func refused(t *testing.T, s string, want api.Errno) {
	t.Helper()
	p, why := name.Read(s)
	if why != want || !same(p, name.Path{}) {
		t.Errorf("Read(%q) of %d bytes: %s, %v, want %v", brief(s), len(s), show(p), why, want)
	}
	c, why := name.Clean(s)
	if why != want || c != "" {
		t.Errorf("Clean(%q) of %d bytes: %q, %v, want %v", brief(s), len(s), brief(c), why, want)
	}
}

func writes(t *testing.T, want string, root, slash bool, parts ...string) {
	t.Helper()
	p := name.Path{Root: root, Slash: slash, Parts: parts}
	if s := name.Write(p); s != want {
		t.Errorf("Write(%s): %q, want %q", show(p), brief(s), brief(want))
	}
}

func cleans(t *testing.T, s, want string) {
	t.Helper()
	if c, why := name.Clean(s); c != want || why != api.OK {
		t.Errorf("Clean(%q): %q, %v, want %q", brief(s), brief(c), why, brief(want))
	}
}

// The chapter's runs and examples.
func TestRunsAndExamples(t *testing.T) {
	reads(t, "//a/./b/", true, true, "a", ".", "b")
	reads(t, "/", true, true)
	cleans(t, "a/./", "a/")
	refused(t, "", api.NoEnt)
	cleans(t, "./.", ".")
	if name.Right("..") {
		t.Error("Right(..): true")
	}
}

// P7.1: the parts are what stands between slashes, and the slashes at both ends are told apart.
func TestReadTellsParts(t *testing.T) {
	reads(t, "a", false, false, "a")
	reads(t, "/a", true, false, "a")
	reads(t, "a/", false, true, "a")
	reads(t, "/a/", true, true, "a")
	reads(t, "a/b", false, false, "a", "b")
	reads(t, "/a/b", true, false, "a", "b")
	reads(t, "a/b/", false, true, "a", "b")
	reads(t, "/a/b/", true, true, "a", "b")
	reads(t, "one/two/three", false, false, "one", "two", "three")
	reads(t, "b/a/b/a", false, false, "b", "a", "b", "a")
}

// P7.1: there are no empty parts, however many slashes stand ahead, between and behind.
func TestReadPassesEmptyParts(t *testing.T) {
	for n := 1; n <= 5; n++ {
		many := slashes(n)
		reads(t, many, true, true)
		reads(t, many+"a", true, false, "a")
		reads(t, "a"+many, false, true, "a")
		reads(t, "a"+many+"b", false, false, "a", "b")
		reads(t, many+"a"+many+"b"+many, true, true, "a", "b")
		reads(t, "/a"+many+"b", true, false, "a", "b")
		reads(t, many+"a/b", true, false, "a", "b")
		reads(t, "a/b"+many, false, true, "a", "b")
	}
}

// P7.1: Read leaves dots as they are.
func TestReadKeepsDots(t *testing.T) {
	reads(t, ".", false, false, ".")
	reads(t, "..", false, false, "..")
	reads(t, "...", false, false, "...")
	reads(t, "/.", true, false, ".")
	reads(t, "/..", true, false, "..")
	reads(t, "./", false, true, ".")
	reads(t, "./../.", false, false, ".", "..", ".")
	reads(t, "/../a/./", true, true, "..", "a", ".")
	reads(t, ".a/b./..c", false, false, ".a", "b.", "..c")
}

// P7.1: a text is bytes; but for the slash and 0 all are alike, those that are no sign of any alphabet too.
func TestReadTakesAnyBytes(t *testing.T) {
	for b := 1; b < 256; b++ {
		c := string([]byte{byte(b)})
		if c == "/" {
			continue
		}
		reads(t, c, false, false, c)
		reads(t, "/"+c+c+"/"+c, true, false, c+c, c)
		reads(t, "a"+c+"/", false, true, "a"+c)
	}
	reads(t, "\xff\xfe/\x80/\xc0\xaf", false, false, "\xff\xfe", "\x80", "\xc0\xaf")
	reads(t, "\\a\\/ b \t\n/\r", false, false, "\\a\\", " b \t\n", "\r")
	reads(t, "ä/漢/\xe6\xbc", false, false, "ä", "漢", "\xe6\xbc")
	// Signs whose numbers, but not whose bytes, hold those of a slash or 0.
	reads(t, "\u2f2f/\u0100/\uff0f/\u2215", false, false, "\u2f2f", "\u0100", "\uff0f", "\u2215")
}

// P7.1: a text of MaxPath bytes is read, and one more is refused, whatever it is made of.
func TestReadTakesMaxPathBytes(t *testing.T) {
	if api.MaxPath != 4096 || api.MaxName != 255 {
		t.Fatal("the limits are others")
	}
	half := api.MaxPath / 2
	as := slices.Repeat([]string{"a"}, half)
	reads(t, strings.Repeat("a/", half), false, true, as...)
	reads(t, strings.Repeat("/a", half), true, false, as...)
	reads(t, strings.Repeat("a/", half-1)+"a", false, false, as...)
	refused(t, strings.Repeat("a/", half)+"a", api.NameLong)
	refused(t, strings.Repeat("/a", half)+"/", api.NameLong)

	// Sixteen parts with their slashes are MaxPath bytes.
	reads(t, strings.Repeat("/"+xs(255), 16), true, false, slices.Repeat([]string{xs(255)}, 16)...)
	refused(t, strings.Repeat("/"+xs(255), 16)+"/", api.NameLong)

	reads(t, slashes(api.MaxPath-1), true, true)
	reads(t, slashes(api.MaxPath), true, true)
	refused(t, slashes(api.MaxPath+1), api.NameLong)
	reads(t, slashes(api.MaxPath-1)+"a", true, false, "a")
	refused(t, slashes(api.MaxPath)+"a", api.NameLong)
	reads(t, "a"+slashes(api.MaxPath-1), false, true, "a")
	refused(t, "a"+slashes(api.MaxPath), api.NameLong)

	// Bytes are counted, not signs.
	wide := strings.Repeat("/ä", api.MaxPath/3)
	reads(t, wide+"/", true, true, slices.Repeat([]string{"ä"}, api.MaxPath/3)...)
	refused(t, wide+"/a", api.NameLong)

	for _, n := range []int{api.MaxPath + 2, 2 * api.MaxPath, 1 << 16, 1<<16 + 1, 1 << 20} {
		refused(t, slashes(n), api.NameLong)
		refused(t, strings.Repeat("a/", n), api.NameLong)
	}
}

// P7.1: a part of MaxName bytes is read, and one more is refused, wherever it stands.
func TestReadTakesMaxNameBytes(t *testing.T) {
	long, over := xs(api.MaxName), xs(api.MaxName+1)
	reads(t, long, false, false, long)
	reads(t, "/"+long, true, false, long)
	reads(t, long+"/", false, true, long)
	reads(t, "//"+long+"//", true, true, long)
	reads(t, "a/"+long+"/b", false, false, "a", long, "b")
	reads(t, long+"/"+long, false, false, long, long)
	for _, s := range []string{over, "/" + over, over + "/", "a/" + over, over + "/a", "/a/" + over + "/b/", long + "/" + over, over + "/" + long, xs(api.MaxName + 2), xs(2 * api.MaxName), xs(api.MaxPath)} {
		refused(t, s, api.NameLong)
	}
	// Bytes are counted, not signs; dots are a name's bytes, too.
	wide := strings.Repeat("ä", 127)
	reads(t, wide+"x", false, false, wide+"x")
	refused(t, wide+"xx", api.NameLong)
	dots := strings.Repeat(".", api.MaxName)
	reads(t, dots, false, false, dots)
	refused(t, dots+".", api.NameLong)
}

// P7.1: a byte 0 is refused wherever it stands.
func TestReadRefusesZeroBytes(t *testing.T) {
	for _, s := range []string{"\x00", "\x00\x00", "\x00a", "a\x00", "a\x00b", "/\x00", "\x00/", "/\x00/", "a/\x00/b", "a/b\x00", "\x00/a", "a/b/\x00", "//\x00//", ".\x00", "..\x00"} {
		refused(t, s, api.Invalid)
	}
	for i := range 20 {
		s := []byte("/usr/local/lib/x/yz/")
		s[i] = 0
		refused(t, string(s), api.Invalid)
	}
	at := []byte(strings.Repeat("a/", api.MaxPath/2))
	at[api.MaxPath-1] = 0
	refused(t, string(at), api.Invalid)
	// The sign 0 is not the byte 0.
	reads(t, "0/a0", false, false, "0", "a0")
}

// P7.1, R3: what is too long as a whole comes first, then a byte 0, then a part that is too long, wherever these stand.
func TestReadRefusesInOrder(t *testing.T) {
	over := xs(api.MaxName + 1)
	for _, s := range []string{over + "\x00", "\x00" + over, "\x00/" + over, over + "/\x00", "/" + over + "/a/\x00", over[:100] + "\x00" + over} {
		refused(t, s, api.Invalid)
	}
	for _, n := range []int{api.MaxPath + 1, api.MaxPath + 2, 2 * api.MaxPath} {
		refused(t, strings.Repeat("\x00", n), api.NameLong)
		refused(t, "\x00"+xs(n-1), api.NameLong)
		refused(t, xs(n-1)+"\x00", api.NameLong)
		refused(t, xs(n), api.NameLong)
		refused(t, "\x00"+slashes(n-1), api.NameLong)
	}
	refused(t, strings.Repeat("\x00", api.MaxPath), api.Invalid)
	refused(t, xs(api.MaxPath-1)+"\x00", api.Invalid)
	refused(t, "\x00"+xs(api.MaxPath-1), api.Invalid)
}

// P7.2: Write of a path without parts is the root's slash alone, if it is there.
func TestWriteWithoutParts(t *testing.T) {
	for _, none := range [][]string{nil, {}, make([]string, 0, 3), []string{"a", "b"}[:0]} {
		writes(t, "", false, false, none...)
		writes(t, "", false, true, none...)
		writes(t, "/", true, false, none...)
		writes(t, "/", true, true, none...)
	}
	if s := name.Write(name.Path{}); s != "" {
		t.Errorf("Write of nothing: %q", s)
	}
}

// P7.2: parts are parted by one slash each, whichever they are.
func TestWriteParts(t *testing.T) {
	writes(t, "a", false, false, "a")
	writes(t, "/a", true, false, "a")
	writes(t, "a/", false, true, "a")
	writes(t, "/a/", true, true, "a")
	writes(t, "a/b", false, false, "a", "b")
	writes(t, "/a/b", true, false, "a", "b")
	writes(t, "a/b/", false, true, "a", "b")
	writes(t, "/b/a/c/", true, true, "b", "a", "c")
	writes(t, "./../.", false, false, ".", "..", ".")
	writes(t, "/../", true, true, "..")
	writes(t, "\xff/ \n", false, false, "\xff", " \n")
}

// P7.2: parts that are not Right are written as they are; an empty one is a part.
func TestWriteOfPartsThatAreNotRight(t *testing.T) {
	writes(t, "", false, false, "")
	writes(t, "/", true, false, "")
	writes(t, "/", false, true, "")
	writes(t, "//", true, true, "")
	writes(t, "/", false, false, "", "")
	writes(t, "///", true, true, "", "")
	writes(t, "a//b", false, false, "a", "", "b")
	writes(t, "a/b/c", false, false, "a/b", "c")
	writes(t, "///", true, true, "/")
	writes(t, "a\x00/\x00", false, false, "a\x00", "\x00")
	writes(t, "/"+xs(256)+"/"+xs(5000)+"/", true, true, xs(256), xs(5000))
	writes(t, strings.Repeat("/a", 3000), true, false, slices.Repeat([]string{"a"}, 3000)...)
}

// P7.2: what may be a name that is made, and what is one or two dots.
func TestRightAndDots(t *testing.T) {
	for _, s := range []string{"a", "ab", "...", "....", ".a", "a.", "..a", "a..", ". ", " .", " ", "\n", "\xff", "\x80\x80", "ä", "漢", "\\", "-", "*", "0", "\uff0f", "\u2024", xs(api.MaxName - 1), xs(api.MaxName), strings.Repeat(".", api.MaxName), strings.Repeat("ä", 127)} {
		if !name.Right(s) {
			t.Errorf("Right(%q) of %d bytes: false", brief(s), len(s))
		}
		if name.Dots(s) {
			t.Errorf("Dots(%q): true", brief(s))
		}
	}
	for _, s := range []string{"", "/", "//", "a/", "/a", "a/b", "./", "/.", "../", "/..", "./.", "\x00", "a\x00", "\x00a", "a\x00b", ".\x00", "..\x00", "\x00.", "/\x00", xs(api.MaxName + 1), xs(api.MaxName + 2), xs(api.MaxPath), xs(1 << 20), strings.Repeat(".", api.MaxName+1), strings.Repeat("ä", 128), xs(api.MaxName-1) + "/", "/" + xs(api.MaxName-1), xs(api.MaxName-1) + "\x00", "\x00" + xs(api.MaxName-1)} {
		if name.Right(s) {
			t.Errorf("Right(%q) of %d bytes: true", brief(s), len(s))
		}
		if name.Dots(s) {
			t.Errorf("Dots(%q): true", brief(s))
		}
	}
	for _, s := range []string{".", ".."} {
		if name.Right(s) || !name.Dots(s) {
			t.Errorf("Right(%q), Dots: %v, %v", s, name.Right(s), name.Dots(s))
		}
	}
}

// P7.2: of one byte and of one byte among others, for every byte there is; of every length.
func TestRightOfEveryByteAndLength(t *testing.T) {
	for b := range 256 {
		c := string([]byte{byte(b)})
		may := b != 0 && b != '/'
		for _, s := range []string{"a" + c, c + "a", "a" + c + "a", xs(254) + c, c + xs(254), xs(100) + c + xs(154)} {
			if name.Right(s) != may {
				t.Errorf("Right(%q): %v", brief(s), !may)
			}
		}
		if name.Right(c) != (may && b != '.') || name.Dots(c) != (b == '.') {
			t.Errorf("Right(%q), Dots: %v, %v", c, name.Right(c), name.Dots(c))
		}
	}
	for n := range 600 {
		if name.Right(xs(n)) != (n >= 1 && n <= 255) {
			t.Errorf("Right of %d bytes: %v", n, name.Right(xs(n)))
		}
		if dots := strings.Repeat(".", n); name.Dots(dots) != (n == 1 || n == 2) || name.Right(dots) != (n >= 3 && n <= 255) {
			t.Errorf("%d dots: Dots %v, Right %v", n, name.Dots(dots), name.Right(dots))
		}
	}
}

// P7.3: parts that are one dot are left out, and empty ones with them; what is left is one dot, if it were nothing.
func TestClean(t *testing.T) {
	for s, want := range map[string]string{
		".": ".", "./.": ".", "./": ".", "././": ".", ".//": ".", ".//.": ".", "./././.": ".",
		"/": "/", "//": "/", "/.": "/", "/./": "/", "//.": "/", "/././.": "/", "///./": "/",
		"a": "a", "a/": "a/", "/a": "/a", "/a/": "/a/", "a//": "a/", "//a": "/a",
		"a/.": "a", "a/./": "a/", "./a": "a", "./a/": "a/", "/./a": "/a", "/a/.": "/a", "/a/./": "/a/", "/./a/./": "/a/",
		"a/b": "a/b", "a//b": "a/b", "a/./b": "a/b", "./a/./b/.": "a/b", "//a//./b": "/a/b", "a/.//./b//": "a/b/",
		"..": "..", "../": "../", "./..": "..", "../.": "..", "/..": "/..", "/../": "/../", "/./../.": "/..",
		"a/../b": "a/../b", "a/..": "a/..", "a/../.": "a/..", "../../a": "../../a",
		"...": "...", ".../.": "...", ".a/./b.": ".a/b.", "./ ": " ", ". /.": ". ", "\xff/./\x80": "\xff/\x80",
	} {
		cleans(t, s, want)
	}
}

// P7.3: at the limits.
func TestCleanAtTheLimits(t *testing.T) {
	cleans(t, slashes(api.MaxPath), "/")
	cleans(t, strings.Repeat("./", api.MaxPath/2), ".")
	cleans(t, strings.Repeat("/.", api.MaxPath/2), "/")
	cleans(t, strings.Repeat("./", api.MaxPath/2-1)+"a/", "a/")
	cleans(t, strings.Repeat("a/", api.MaxPath/2), strings.Repeat("a/", api.MaxPath/2))
	cleans(t, strings.Repeat("/a/.", api.MaxPath/4), strings.Repeat("/a", api.MaxPath/4))
	cleans(t, "./"+xs(api.MaxName)+"/.", xs(api.MaxName))
	// What would be left out does not make a text short enough.
	refused(t, strings.Repeat("./", api.MaxPath/2)+".", api.NameLong)
	refused(t, strings.Repeat("/.", api.MaxPath/2)+"/", api.NameLong)
	refused(t, "./\x00/.", api.Invalid)
	refused(t, "././"+xs(api.MaxName+1), api.NameLong)
}

// P7.4: Read of Write is the path, of Right parts, one or more.
func TestReadOfWriteIsThePath(t *testing.T) {
	names := []string{"a", "b", "...", ".a", "b c", "\xff", "\n", "ä", "\\", xs(api.MaxName)}
	for _, n := range names {
		if !name.Right(n) {
			t.Fatalf("Right(%q): false", brief(n))
		}
	}
	for count := 1; count <= 16; count++ {
		for first := range names {
			var some []string
			for i := range count {
				some = append(some, names[(first+i*i)%len(names)])
			}
			for _, root := range []bool{false, true} {
				for _, slash := range []bool{false, true} {
					s := name.Write(name.Path{Root: root, Slash: slash, Parts: some})
					reads(t, s, root, slash, some...)
					cleans(t, s, s)
				}
			}
		}
	}
}

// P7.4: up to MaxPath bytes; what Write answers beyond it, Read refuses.
func TestReadOfWriteAtTheLimit(t *testing.T) {
	whole := slices.Repeat([]string{xs(api.MaxName)}, 16)
	for _, root := range []bool{false, true} {
		for _, slash := range []bool{false, true} {
			s := name.Write(name.Path{Root: root, Slash: slash, Parts: whole})
			if root && slash {
				refused(t, s, api.NameLong)
			} else {
				reads(t, s, root, slash, whole...)
			}
		}
	}
}

// spoil writes all over a list, its spare room too.
func spoil(list []string) {
	list = list[:cap(list)]
	for i := range list {
		list[i] = "spoilt"
	}
}

// R2: what Read answers is new memory each time, its spare room too.
func TestReadAnswersNewMemory(t *testing.T) {
	for n := 1; n <= 20; n++ {
		s := strings.Repeat("a/", n)
		want := slices.Repeat([]string{"a"}, n)
		one, _ := name.Read(s)
		two, _ := name.Read(s)
		spoil(one.Parts)
		reads(t, s, false, true, want...)
		if !slices.Equal(two.Parts, want) {
			t.Errorf("another answer: %q", two.Parts)
		}
		if slices.Contains(two.Parts[:cap(two.Parts)], "spoilt") {
			t.Error("two answers share room")
		}
		for _, part := range two.Parts[len(two.Parts):cap(two.Parts)] {
			if part != "" {
				t.Errorf("in the spare room: %q", part)
			}
		}
	}
	// One without parts may not hand out room that others get, too.
	none, _ := name.Read("/")
	spoil(none.Parts)
	reads(t, "///", true, true)
}

// R2: Write and Read of what Write answered leave the parts that were handed in alone, those behind their length too.
func TestWriteChangesNothing(t *testing.T) {
	given := []string{"a", ".", "", "b", "room", "more"}
	p := name.Path{Root: true, Slash: true, Parts: given[:4]}
	for range 3 {
		if s := name.Write(p); s != "/a/.//b/" {
			t.Fatalf("Write: %q", s)
		}
		_, _ = name.Clean(name.Write(p))
	}
	if !p.Root || !p.Slash || len(p.Parts) != 4 || !slices.Equal(given, []string{"a", ".", "", "b", "room", "more"}) {
		t.Errorf("handed in: %s, %q", show(p), given)
	}
}

// textIn answers a text that lies in the bytes: who keeps a piece of it sees them change.
func textIn(b []byte) string { return unsafe.String(&b[0], len(b)) }

// R2: a text that is handed in is not changed, and no answer keeps a piece of it.
func TestAnswersShareNoMemory(t *testing.T) {
	for _, s := range []string{"a", "/", "abc", "a/", "/a", "one/two/./three/", "//a/..", ".", xs(api.MaxName)} {
		b := []byte(s)
		p, _ := name.Read(textIn(b))
		c, _ := name.Clean(textIn(b))
		var parts []string
		for _, part := range p.Parts {
			parts = append(parts, strings.Clone(part))
		}
		clean := strings.Clone(c)
		if string(b) != s {
			t.Errorf("%q was changed: %q", brief(s), b)
		}
		for i := range b {
			b[i] = '!'
		}
		if !slices.Equal(p.Parts, parts) {
			t.Errorf("Read(%q): %q", brief(s), p.Parts)
		}
		if c != clean {
			t.Errorf("Clean(%q): %q", brief(s), brief(c))
		}
	}
	for _, root := range []bool{false, true} {
		for _, slash := range []bool{false, true} {
			b := []byte("part")
			w := name.Write(name.Path{Root: root, Slash: slash, Parts: []string{textIn(b)}})
			copy(b, "!!!!")
			if !strings.Contains(w, "part") {
				t.Errorf("Write: %q", w)
			}
		}
	}
}

// R4: an answer hangs on what is given alone, whatever was asked between.
func TestAnswersHangOnWhatIsGiven(t *testing.T) {
	for range 3 {
		reads(t, "/a/./b/", true, true, "a", ".", "b")
		refused(t, "a/"+xs(api.MaxName+1), api.NameLong)
		cleans(t, "/a/./b/", "/a/b/")
		refused(t, "a\x00", api.Invalid)
		reads(t, "c", false, false, "c")
		refused(t, "", api.NoEnt)
		cleans(t, "./", ".")
		writes(t, "x/y", false, false, "x", "y")
	}
}
