package name_test

import (
	"math/rand"
	"slices"
	"testing"

	"warren/api"
	"warren/name"
)

// told is the chapter's words of Read, byte by byte: no part of the text is looked for, each byte goes where it belongs.
func told(s string) (name.Path, api.Errno) {
	if len(s) == 0 {
		return name.Path{}, api.NoEnt
	}
	if len(s) > 4096 {
		return name.Path{}, api.NameLong
	}
	for i := range len(s) {
		if s[i] == 0 {
			return name.Path{}, api.Invalid
		}
	}
	p := name.Path{Root: s[0] == '/', Slash: s[len(s)-1] == '/'}
	for i := range len(s) {
		switch {
		case s[i] == '/':
		case i == 0 || s[i-1] == '/':
			p.Parts = append(p.Parts, s[i:i+1])
		default:
			p.Parts[len(p.Parts)-1] += s[i : i+1]
		}
	}
	for _, part := range p.Parts {
		if len(part) > 255 {
			return name.Path{}, api.NameLong
		}
	}
	return p, api.OK
}

// toldClean is the chapter's words of Clean, with its own writing.
func toldClean(s string) (string, api.Errno) {
	p, why := told(s)
	if why != api.OK {
		return "", why
	}
	out, ahead := "", ""
	for _, part := range p.Parts {
		if part != "." {
			out, ahead = out+ahead+part, "/"
		}
	}
	if p.Slash && out != "" {
		out += "/"
	}
	if p.Root {
		out = "/" + out
	}
	if out == "" {
		return ".", api.OK
	}
	return out, api.OK
}

// hold asks for all that the package tells of the text, and holds it against the chapter's words.
func hold(t *testing.T, s string) {
	t.Helper()
	want, whyNot := told(s)
	p, why := name.Read(s)
	if why != whyNot || !same(p, want) {
		t.Fatalf("P7.1: Read(%q): %s, %v, want %s, %v", brief(s), show(p), why, show(want), whyNot)
	}
	clean, whyNot := toldClean(s)
	c, why := name.Clean(s)
	if c != clean || why != whyNot {
		t.Fatalf("P7.3: Clean(%q): %q, %v, want %q, %v", brief(s), brief(c), why, brief(clean), whyNot)
	}
	// A text is a name just when Read takes it as one part with no slash, which is not dots.
	one := whyNot == api.OK && !want.Root && !want.Slash && len(want.Parts) == 1
	dots := s == "." || s == ".."
	if name.Right(s) != (one && !dots) || name.Dots(s) != dots {
		t.Fatalf("P7.2: Right(%q), Dots: %v, %v", brief(s), name.Right(s), name.Dots(s))
	}
	if why == api.OK {
		holdPath(t, p, c)
	}
}

// holdPath holds what follows: what is clean is clean already, and a path is read as it was written.
func holdPath(t *testing.T, p name.Path, clean string) {
	t.Helper()
	if c, why := name.Clean(clean); c != clean || why != api.OK {
		t.Fatalf("P7.3: Clean(%q): %q, %v", brief(clean), brief(c), why)
	}
	if len(p.Parts) == 0 {
		return
	}
	// Dots are no names that are made, but are read as they are written, too.
	if q, why := name.Read(name.Write(p)); why != api.OK || !same(p, q) {
		t.Fatalf("P7.4: Read of Write of %s: %s, %v", show(p), show(q), why)
	}
}

// P7.1 to P7.4: all texts of up to seven of these bytes.
func TestAllShortTexts(t *testing.T) {
	signs := []byte{'/', '.', 'a', 0, 0xff}
	var grow func(s []byte, left int)
	grow = func(s []byte, left int) {
		hold(t, string(s))
		if left == 0 {
			return
		}
		for _, b := range signs {
			grow(append(s, b), left-1)
		}
	}
	grow(make([]byte, 0, 7), 7)
}

// P7.1 to P7.4: texts about the limits, made of pieces of all lengths.
func TestLongTexts(t *testing.T) {
	r := rand.New(rand.NewSource(7))
	pieces := []string{"/", "//", ".", "..", "/./", "a", "b/", "...", "\xff", "ä", xs(50), xs(254), xs(255), xs(255) + "/", xs(256), slashes(100), slashes(1000), "x/", "/x"}
	lengths := []int{1, 254, 255, 256, 257, 510, 1000, 4095, 4096, 4097, 4098, 5000}
	took := 0
	for round := range 6000 {
		// Half of the rounds part the long pieces, so that not all of their texts are refused.
		parted := round%2 == 0
		var s []byte
		most := lengths[r.Intn(len(lengths))]
		for len(s) < most {
			s = append(s, pieces[r.Intn(len(pieces))]...)
			if parted {
				s = append(s, '/')
			}
		}
		s = s[:most]
		if r.Intn(8) == 0 {
			s[r.Intn(len(s))] = 0
		}
		hold(t, string(s))
		if _, why := name.Read(string(s)); why == api.OK {
			took++
		}
	}
	if took < 500 {
		t.Errorf("only %d texts were taken", took)
	}
}

// P7.2, P7.4: all paths of up to four of these names.
func TestAllShortPaths(t *testing.T) {
	names := []string{"a", "b", "...", "\xff\n"}
	var grow func(some []string, left int)
	grow = func(some []string, left int) {
		for ends := range 4 {
			p := name.Path{Root: ends&1 > 0, Slash: ends&2 > 0, Parts: some}
			s := name.Write(p)
			q, why := name.Read(s)
			if len(some) > 0 && (why != api.OK || !same(p, q)) {
				t.Fatalf("P7.4: %s, written %q: %s, %v", show(p), s, show(q), why)
			}
		}
		if left == 0 {
			return
		}
		for _, n := range names {
			grow(append(slices.Clone(some), n), left-1)
		}
	}
	grow(nil, 4)
}
