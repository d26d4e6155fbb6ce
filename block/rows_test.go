package block_test

import (
	"fmt"
	"math"
	"math/rand"
	"testing"

	"warren/api"
	"warren/block"
)

// Kinds of calls that a row is made of.
const (
	asFile = iota
	asDrop
	asRead
	asWrite
	asCut
)

// ask is one call of a row; at is Cut's size, n is how many bytes are read, or written.
type ask struct{ kind, f, at, n int }

// bytesOf answers what the call number i of a row writes: n bytes, now and then one that is 0.
func bytesOf(i, n int) []byte {
	b := make([]byte, n)
	for k := range b {
		b[k] = byte(i*31 + k*7)
	}
	return b
}

// answer is what a call answers, the fields that its kind does not have being zero.
type answer struct {
	f   int
	b   string
	why api.Errno
}

func (x answer) String() string { return fmt.Sprintf("{%d %q %d}", x.f, x.b, int(x.why)) }

func play(p *block.Pool, i int, c ask) (x answer) {
	switch c.kind {
	case asFile:
		x.f = p.File()
	case asDrop:
		x.why = p.Drop(c.f)
	case asRead:
		b, why := p.Read(c.f, c.at, c.n)
		x.b, x.why = string(b), why
	case asWrite:
		x.why = p.Write(c.f, c.at, bytesOf(i, c.n))
	case asCut:
		x.why = p.Cut(c.f, c.at)
	}
	return x
}

// turn is what happened to a file: bytes that were written at a place, or a cut to a size, which is at.
type turn struct {
	cut bool
	at  int
	b   []byte
}

// toldFile is a file as the chapter's words tell it, without blocks that are kept: all that ever happened to it.
type toldFile struct {
	dropped bool
	turns   []turn
}

func (w *toldFile) size() int {
	size := 0
	for _, c := range w.turns {
		if c.cut {
			size = c.at
		} else {
			size = max(size, c.at+len(c.b))
		}
	}
	return size
}

// at answers the byte at the place: what was written last, unless it was cut away since.
func (w *toldFile) at(place int) byte {
	for i := len(w.turns) - 1; i >= 0; i-- {
		c := w.turns[i]
		if c.cut && c.at <= place {
			return 0
		}
		if !c.cut && c.at <= place && place < c.at+len(c.b) {
			return c.b[place-c.at]
		}
	}
	return 0
}

// has tells whether a byte was written into the block, which was not cut away since.
func (w *toldFile) has(nr int) bool {
	for i := len(w.turns) - 1; i >= 0; i-- {
		c := w.turns[i]
		if c.cut && c.at <= nr*api.BlockBytes {
			return false
		}
		if !c.cut && c.at < (nr+1)*api.BlockBytes && c.at+len(c.b) > nr*api.BlockBytes {
			return true
		}
	}
	return false
}

func (w *toldFile) used() int {
	n := 0
	for nr := range api.MaxSize / api.BlockBytes {
		if !w.dropped && w.has(nr) {
			n++
		}
	}
	return n
}

// read answers the bytes from place from on, ahead of place to.
func (w *toldFile) read(from, to int) string {
	var b []byte
	for place := from; place < to; place++ {
		b = append(b, w.at(place))
	}
	return string(b)
}

// told is a pool by the chapter's words.
type told struct {
	blocks int
	files  []*toldFile
}

// file answers file f, nil if it is none or was dropped.
func (w *told) file(f int) *toldFile {
	if f < 1 || f > len(w.files) || w.files[f-1].dropped {
		return nil
	}
	return w.files[f-1]
}

func (w *told) left() int {
	n := w.blocks
	for _, f := range w.files {
		n -= f.used()
	}
	return n
}

func (w *told) play(i int, c ask) answer {
	if c.kind == asFile {
		w.files = append(w.files, &toldFile{})
		return answer{f: len(w.files)}
	}
	f := w.file(c.f)
	if f == nil {
		return answer{why: api.ErrArg}
	}
	switch c.kind {
	case asDrop:
		f.dropped = true
	case asRead:
		if c.at < 0 || c.n < 0 {
			return answer{why: api.Invalid}
		}
		if size := f.size(); c.at < size {
			return answer{b: f.read(c.at, c.at+min(c.n, size-c.at))}
		}
	case asWrite:
		return answer{why: w.write(f, c.at, bytesOf(i, c.n))}
	case asCut:
		switch {
		case c.at < 0:
			return answer{why: api.Invalid}
		case c.at > api.MaxSize:
			return answer{why: api.TooBig}
		}
		f.turns = append(f.turns, turn{cut: true, at: c.at})
	}
	return answer{}
}

// write lets the file turn, and takes that back if the pool has not so many blocks.
func (w *told) write(f *toldFile, at int, b []byte) api.Errno {
	switch {
	case at < 0:
		return api.Invalid
	case len(b) == 0:
		return api.OK
	case at > api.MaxSize || at+len(b) > api.MaxSize:
		return api.TooBig
	}
	f.turns = append(f.turns, turn{at: at, b: b})
	if w.left() < 0 {
		f.turns = f.turns[:len(f.turns)-1]
		return api.NoSpace
	}
	return api.OK
}

// sums holds Size, Used and Left against what is told. P9.3: Left and all Used make the pool.
func sums(p *block.Pool, w *told) string {
	all := p.Left()
	for f := -1; f <= len(w.files)+1; f++ {
		size, used := 0, 0
		if is := w.file(f); is != nil {
			size, used = is.size(), is.used()
		}
		if p.Size(f) != size || p.Used(f) != used {
			return fmt.Sprintf("file %d: Size %d, Used %d, want %d, %d", f, p.Size(f), p.Used(f), size, used)
		}
		all += p.Used(f)
	}
	if all != w.blocks {
		return fmt.Sprintf("P9.3: Left %d, with all Used %d", p.Left(), all)
	}
	return ""
}

// holdAgainst plays the row in a pool and as it is told, and holds what can be asked against each other behind each call. At last each file is cut to MaxSize, so that what is not within must be 0.
func holdAgainst(t *testing.T, blocks int, row []ask) {
	t.Helper()
	p, w := made(t, blocks, 0), &told{blocks: blocks}
	for i, c := range row {
		got, want := play(p, i, c), w.play(i, c)
		if got != want {
			t.Fatalf("%d blocks, %v, call %d: %v, want %v", blocks, row[:i+1], i, got, want)
		}
		if wrong := sums(p, w); wrong != "" {
			t.Fatalf("%d blocks, %v, call %d: %s", blocks, row[:i+1], i, wrong)
		}
	}
	for f := range len(w.files) + 1 {
		for k, c := range []ask{{asRead, f, 0, math.MaxInt}, {asCut, f, api.MaxSize, 0}, {asRead, f, 0, math.MaxInt}} {
			if got, want := play(p, 0, c), w.play(0, c); got != want {
				t.Fatalf("P9.3: %d blocks, %v, at last %d of file %d: %v, want %v", blocks, row, k, f, got, want)
			}
		}
	}
	if wrong := sums(p, w); wrong != "" {
		t.Fatalf("%d blocks, %v, at last: %s", blocks, row, wrong)
	}
}

// P9.1 to P9.3: all rows of three calls, behind two files, in pools of no, one and two blocks.
func TestAllShortRows(t *testing.T) {
	calls := []ask{{asFile, 0, 0, 0}, {asDrop, 1, 0, 0}, {asDrop, 2, 0, 0}, {asWrite, 2, 0, edge + 1}, {asCut, 2, 0, 0}, {asWrite, 1, -1, 0}, {asWrite, 1, end, 1}}
	for _, at := range []int{0, edge - 1, edge, edge + 5} {
		for _, n := range []int{0, 1, edge} {
			calls = append(calls, ask{asWrite, 1, at, n})
		}
		calls = append(calls, ask{asCut, 1, at, 0}, ask{asCut, 1, at + 1, 0})
	}
	for blocks := range 3 {
		for _, first := range calls {
			for _, second := range calls {
				for _, third := range calls {
					holdAgainst(t, blocks, []ask{{kind: asFile}, {kind: asFile}, first, second, third, {asRead, 1, 3, 2 * edge}})
				}
			}
		}
	}
}

// P9.1 to P9.3: long rows over pools of several sizes, which are now full, now empty.
func TestLongRows(t *testing.T) {
	r := rand.New(rand.NewSource(9))
	for _, blocks := range []int{0, 1, 2, 5, 20, 100, api.MaxBlocks} {
		for range 12 {
			holdAgainst(t, blocks, longRow(r, 150))
		}
	}
}

// place answers one that is mostly small or near an edge, and now and then one that may not be.
func place(r *rand.Rand) int {
	switch r.Intn(12) {
	case 0:
		return []int{-1, api.MaxSize - 1, api.MaxSize, api.MaxSize + 1, math.MaxInt, math.MinInt, math.MaxInt - 20}[r.Intn(7)]
	case 1, 2, 3:
		return max(0, r.Intn(12)*edge+r.Intn(3)-1)
	case 4:
		return r.Intn(api.MaxSize)
	}
	return r.Intn(8 * edge)
}

func longRow(r *rand.Rand, calls int) []ask {
	row := []ask{{kind: asFile}, {kind: asFile}}
	files := 2
	for len(row) < calls {
		c := ask{asWrite, 1 + r.Intn(files), place(r), r.Intn(4 * edge)}
		switch r.Intn(20) {
		case 0:
			c.kind = asFile
			files++
		case 1:
			c.kind = asDrop
		case 2, 3, 4:
			c.kind = asCut
		case 5, 6, 7, 8:
			c.kind = asRead
		case 9:
			c.n = r.Intn(api.MaxSize + 2)
		case 10:
			c.f = []int{-1, 0, files + 1}[r.Intn(3)]
		}
		if c.kind == asRead && r.Intn(3) == 0 {
			c.n = place(r)
		}
		row = append(row, c)
	}
	return row
}
