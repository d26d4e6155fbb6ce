package block_test

import (
	"bytes"
	"fmt"
	"math"
	"strings"
	"testing"

	"warren/api"
	"warren/block"
)

const (
	edge = api.BlockBytes
	end  = api.MaxSize
)

// made answers a pool of so many blocks, and files 1 and on.
func made(t *testing.T, blocks, files int) *block.Pool {
	t.Helper()
	p, why := block.New(blocks)
	if p == nil || why != api.OK {
		t.Fatalf("New(%d): %v, %v", blocks, p, why)
	}
	for i := range files {
		if f := p.File(); f != i+1 {
			t.Fatalf("P9.1: File %d: %d", i+1, f)
		}
	}
	return p
}

func write(t *testing.T, p *block.Pool, f, at int, s string, want api.Errno) {
	t.Helper()
	if why := p.Write(f, at, []byte(s)); why != want {
		t.Errorf("Write(%d, %d, %d bytes): %v, want %v", f, at, len(s), why, want)
	}
}

func cut(t *testing.T, p *block.Pool, f, size int, want api.Errno) {
	t.Helper()
	if why := p.Cut(f, size); why != want {
		t.Errorf("Cut(%d, %d): %v, want %v", f, size, why, want)
	}
}

func drop(t *testing.T, p *block.Pool, f int, want api.Errno) {
	t.Helper()
	if why := p.Drop(f); why != want {
		t.Errorf("Drop(%d): %v, want %v", f, why, want)
	}
}

func reads(t *testing.T, p *block.Pool, f, at, n int, want string, because api.Errno) {
	t.Helper()
	if b, why := p.Read(f, at, n); string(b) != want || why != because {
		t.Errorf("Read(%d, %d, %d): %q, %v, want %q, %v", f, at, n, b, why, want, because)
	}
}

// stands asks how large the file is, how many blocks it has, and how many are left.
func stands(t *testing.T, p *block.Pool, f, size, used, left int) {
	t.Helper()
	if p.Size(f) != size || p.Used(f) != used || p.Left() != left {
		t.Errorf("file %d: Size %d, Used %d, Left %d, want %d, %d, %d", f, p.Size(f), p.Used(f), p.Left(), size, used, left)
	}
}

// look tells all that can be asked of files 1 to files, and of the pool, without turning anything.
func look(p *block.Pool, files int) string {
	text := fmt.Sprint("left ", p.Left())
	for f := 1; f <= files; f++ {
		b, why := p.Read(f, 0, end)
		text += fmt.Sprintf("; %d: %q %d, size %d, used %d", f, b, why, p.Size(f), p.Used(f))
	}
	return text
}

func noughts(n int) string { return strings.Repeat("\x00", n) }

// letters answers n bytes, none of which is 0, and each of which is another one than those near it.
func letters(n int) string {
	b := make([]byte, n)
	for i := range b {
		b[i] = byte('A' + i%57)
	}
	return string(b)
}

// The chapter's runs and examples.
func TestRunsAndExamples(t *testing.T) {
	p := made(t, 1, 1)
	write(t, p, 1, 20, "x", api.OK)
	reads(t, p, 1, 0, 99, noughts(20)+"x", api.OK)
	stands(t, p, 1, 21, 1, 0)

	none := made(t, 0, 1)
	write(t, none, 1, 0, "x", api.NoSpace)
	stands(t, none, 1, 0, 0, 0)

	reads(t, p, 1, 22, 1, "", api.OK)
	cut(t, p, 1, 60, api.OK)
	reads(t, p, 1, 20, 99, "x"+noughts(39), api.OK)
	stands(t, p, 1, 60, 1, 0)
	write(t, p, 1, end+5, "", api.OK)
	stands(t, p, 1, 60, 1, 0)
}

// P9.1: how many blocks there may be; all of a new pool are left.
func TestNew(t *testing.T) {
	for n := 0; n <= api.MaxBlocks; n++ {
		if p := made(t, n, 0); p.Left() != n || p.File() != 1 {
			t.Errorf("P9.1: New(%d): %d left", n, p.Left())
		}
	}
	for _, n := range []int{-1, -2, -api.MaxBlocks, api.MaxBlocks + 1, 1 << 32, 1<<32 + 1, math.MaxInt, math.MinInt, math.MinInt + 1} {
		if p, why := block.New(n); p != nil || why != api.ErrArg {
			t.Errorf("P9.1: New(%d): %v, %v", n, p, why)
		}
	}
}

// P9.1: files are numbered 1 and on, without bytes; they need no block, and no number comes again.
func TestFile(t *testing.T) {
	p := made(t, 0, 0)
	for f := 1; f <= 300; f++ {
		if got := p.File(); got != f {
			t.Fatalf("P9.1: File: %d, want %d", got, f)
		}
		stands(t, p, f, 0, 0, 0)
		reads(t, p, f, 0, end, "", api.OK)
		if f%3 == 0 {
			drop(t, p, f, api.OK)
		}
	}
	other := made(t, 1, 0)
	if other.File() != 1 {
		t.Error("P9.1: the files of another pool have numbers of their own")
	}
}

// noFile makes every call of f, with arguments of all kinds, each of which must be refused because of f.
func noFile(t *testing.T, p *block.Pool, f int) {
	t.Helper()
	for _, at := range []int{math.MinInt, -1, 0, 3, end, end + 1, math.MaxInt} {
		for _, n := range []int{math.MinInt, -1, 0, 1, end, math.MaxInt} {
			reads(t, p, f, at, n, "", api.ErrArg)
		}
		for _, n := range []int{0, 1, 5 * edge, end, end + 1} {
			write(t, p, f, at, letters(n), api.ErrArg)
		}
		cut(t, p, f, at, api.ErrArg)
	}
	if p.Size(f) != 0 || p.Used(f) != 0 {
		t.Errorf("P9.1: no file %d: Size %d, Used %d", f, p.Size(f), p.Used(f))
	}
	drop(t, p, f, api.ErrArg)
}

// P9.1: calls of no file, or of one that was dropped, are refused ahead of all else, and turn nothing.
func TestNoFile(t *testing.T) {
	p := made(t, 3, 3)
	write(t, p, 1, 10, letters(10), api.OK)
	write(t, p, 2, 0, "dropped", api.OK)
	drop(t, p, 2, api.OK)
	drop(t, p, 3, api.OK)
	was := look(p, 4)
	for _, f := range []int{0, -1, -2, 2, 3, 4, 5, 1 << 32, 1<<32 + 1, math.MaxInt, math.MinInt, math.MinInt + 1} {
		noFile(t, p, f)
		if is := look(p, 4); is != was {
			t.Errorf("P9.1: calls of no file %d: %s, want %s", f, is, was)
		}
	}
	if f := p.File(); f != 4 {
		t.Errorf("P9.1: File: %d", f)
	}
	stands(t, p, 4, 0, 0, 1)
	noFile(t, p, 2)
	noFile(t, p, 5)

	empty := made(t, 2, 0)
	noFile(t, empty, 0)
	noFile(t, empty, 1)
	if empty.Left() != 2 || empty.File() != 1 {
		t.Errorf("P9.1: a pool without files: %d", empty.Left())
	}
}

// P9.1: Read refuses what is below 0, whichever it is.
func TestReadRefuses(t *testing.T) {
	p := made(t, 2, 2)
	write(t, p, 1, 0, "abc", api.OK)
	was := look(p, 2)
	for _, f := range []int{1, 2} {
		for _, below := range []int{-1, -2, -edge, -end, math.MinInt, math.MinInt + 1} {
			for _, other := range []int{math.MinInt, -1, 0, 1, 3, 4, end, math.MaxInt} {
				reads(t, p, f, below, other, "", api.Invalid)
				reads(t, p, f, other, below, "", api.Invalid)
			}
		}
	}
	if is := look(p, 2); is != was {
		t.Errorf("P9.1: %s, want %s", is, was)
	}
}

// P9.1: Read answers the bytes from at on, n at most, as far as Size goes: each at and n, and the greatest ones.
func TestReadAnywhere(t *testing.T) {
	for _, size := range []int{0, 1, edge - 1, edge, edge + 1, 3*edge + 5} {
		p := made(t, 4, 1)
		all := letters(size)
		write(t, p, 1, 0, all, api.OK)
		for at := range size + 20 {
			rest := all[min(at, size):]
			for n := range size + 20 {
				reads(t, p, 1, at, n, rest[:min(n, len(rest))], api.OK)
			}
			for _, n := range []int{end, end + 1, 1 << 32, math.MaxInt - 1, math.MaxInt} {
				reads(t, p, 1, at, n, rest, api.OK)
			}
		}
		for _, at := range []int{end - 1, end, end + 1, 1 << 32, math.MaxInt - 1, math.MaxInt} {
			for _, n := range []int{0, 1, end, math.MaxInt} {
				reads(t, p, 1, at, n, "", api.OK)
			}
		}
		stands(t, p, 1, size, (size+edge-1)/edge, 4-(size+edge-1)/edge)
	}
}

// P9.1, P9.2: a hole reads as 0, from wherever and as far as it is read.
func TestReadAcrossHoles(t *testing.T) {
	p := made(t, 3, 1)
	write(t, p, 1, 5, "ab", api.OK)
	write(t, p, 1, 4*edge-1, "cd", api.OK)
	cut(t, p, 1, 6*edge, api.OK)
	all := noughts(5) + "ab" + noughts(4*edge-1-7) + "cd" + noughts(2*edge-1)
	for at := range len(all) + 1 {
		for n := range len(all) + 1 {
			reads(t, p, 1, at, n, all[at:min(at+n, len(all))], api.OK)
		}
	}
	stands(t, p, 1, 6*edge, 3, 0)
}

// P9.1: Write of nothing is OK at any at that is not below 0, and turns nothing, whatever room there is.
func TestWriteNothing(t *testing.T) {
	for _, blocks := range []int{0, 1, 5} {
		p := made(t, blocks, 2)
		if blocks > 0 {
			write(t, p, 1, 3, "abc", api.OK)
		}
		was := look(p, 2)
		for _, at := range []int{0, 1, 4, 6, 7, edge, end - 1, end, end + 1, end + 5, 1 << 40, math.MaxInt - 1, math.MaxInt} {
			for _, nothing := range [][]byte{nil, {}, []byte("xyz")[:0]} {
				for _, f := range []int{1, 2} {
					if why := p.Write(f, at, nothing); why != api.OK {
						t.Errorf("P9.1: Write(%d, %d, nothing): %v", f, at, why)
					}
				}
			}
			if is := look(p, 2); is != was {
				t.Errorf("P9.1: nothing at %d: %s, want %s", at, is, was)
			}
		}
		for _, at := range []int{-1, -edge, math.MinInt} {
			write(t, p, 1, at, "", api.Invalid)
		}
	}
}

// P9.1: the order of Write's refusals; each of them turns nothing, not even what would come within later.
func TestWriteRefuses(t *testing.T) {
	p := made(t, 2, 2)
	write(t, p, 1, 0, "abcdef", api.OK)
	cut(t, p, 1, 3, api.OK)
	was := look(p, 2)
	rows := []struct {
		at, n int
		why   api.Errno
	}{
		{-1, 0, api.Invalid}, {-1, 1, api.Invalid}, {-1, end + 2, api.Invalid}, {-edge, 9 * edge, api.Invalid}, {math.MinInt, 1, api.Invalid}, {math.MinInt, end + 1, api.Invalid},
		{0, end + 1, api.TooBig}, {1, end, api.TooBig}, {end - 1, 2, api.TooBig}, {end, 1, api.TooBig}, {end + 1, 1, api.TooBig}, {end - edge, edge + 1, api.TooBig},
		{1 << 40, 1, api.TooBig}, {math.MaxInt, 1, api.TooBig}, {math.MaxInt, end, api.TooBig}, {math.MaxInt - 1, 2, api.TooBig}, {math.MaxInt - 4, 4, api.TooBig}, {math.MaxInt - 4, 9, api.TooBig}, {0, 5000, api.TooBig},
		{0, end, api.NoSpace}, {0, 2*edge + 1, api.NoSpace}, {edge, edge + 1, api.NoSpace}, {edge - 1, edge + 2, api.NoSpace}, {end - 2*edge, 2 * edge, api.NoSpace}, {2*edge - 1, 2, api.NoSpace}, {1, end - 1, api.NoSpace},
	}
	for _, c := range rows {
		write(t, p, 1, c.at, letters(c.n), c.why)
		if is := look(p, 2); is != was {
			t.Errorf("P9.1: refused at %d, %d bytes: %s, want %s", c.at, c.n, is, was)
		}
	}
	cut(t, p, 1, end, api.OK)
	reads(t, p, 1, 0, end, "abc"+noughts(end-3), api.OK)
	stands(t, p, 1, end, 1, 1)
}

// P9.1: a Write that ends at MaxSize is as good as others, and one behind it is not.
func TestWriteAtTheEnd(t *testing.T) {
	for _, n := range []int{1, 2, edge - 1, edge, edge + 1, end - 1, end} {
		p := made(t, end/edge, 1)
		used := (n + edge - 1) / edge
		write(t, p, 1, end-n+1, letters(n), api.TooBig)
		stands(t, p, 1, 0, 0, end/edge)
		write(t, p, 1, end-n, letters(n), api.OK)
		stands(t, p, 1, end, used, end/edge-used)
		reads(t, p, 1, 0, math.MaxInt, noughts(end-n)+letters(n), api.OK)
		reads(t, p, 1, end-1, 2, letters(n)[n-1:], api.OK)
		write(t, p, 1, end, "x", api.TooBig)
		write(t, p, 1, 0, letters(end), api.OK)
		stands(t, p, 1, end, end/edge, 0)
		reads(t, p, 1, 0, end, letters(end), api.OK)
	}
}

// P9.1, P9.2: a Write takes a block for each that it touches and that the file has not; as many as are left, but not one more.
func TestWriteTakesBlocks(t *testing.T) {
	for at := range 3 * edge {
		for n := 1; n <= 3*edge; n++ {
			need := 0
			for from := 0; from < 6*edge; from += edge {
				if at < from+edge && at+n > from {
					need++
				}
			}
			p := made(t, need-1, 1)
			write(t, p, 1, at, letters(n), api.NoSpace)
			stands(t, p, 1, 0, 0, need-1)
			p = made(t, need, 1)
			write(t, p, 1, at, letters(n), api.OK)
			stands(t, p, 1, at+n, need, 0)
			reads(t, p, 1, 0, end, noughts(at)+letters(n), api.OK)
		}
	}
}

// P9.1: blocks that the file has count for it: into them it is written while none is left, and only those between and behind them are needed.
func TestWriteIntoWhatItHas(t *testing.T) {
	p := made(t, 3, 2)
	write(t, p, 1, edge+3, "x", api.OK)
	write(t, p, 1, 3*edge, "y", api.OK)
	write(t, p, 2, 0, "z", api.OK)
	stands(t, p, 1, 3*edge+1, 2, 0)
	write(t, p, 1, edge, letters(edge), api.OK)
	write(t, p, 1, 3*edge, letters(edge), api.OK)
	stands(t, p, 1, 4*edge, 2, 0)
	for _, c := range [][2]int{{edge - 1, 1}, {edge - 1, 2}, {edge, edge + 1}, {2*edge - 1, 2}, {3*edge - 1, 2}, {edge, 3 * edge}, {4*edge - 1, 2}, {4 * edge, 1}} {
		write(t, p, 1, c[0], letters(c[1]), api.NoSpace)
		stands(t, p, 1, 4*edge, 2, 0)
	}
	write(t, p, 2, edge-1, "w", api.OK)
	write(t, p, 2, edge, "w", api.NoSpace)
	stands(t, p, 2, edge, 1, 0)
	cut(t, p, 2, 0, api.OK)
	write(t, p, 1, 2*edge-1, letters(edge+2), api.OK)
	stands(t, p, 1, 4*edge, 3, 0)
	reads(t, p, 1, 0, end, noughts(edge)+letters(edge)[:edge-1]+letters(edge+2)+letters(edge)[1:], api.OK)
	write(t, p, 1, edge, letters(3*edge), api.OK)
	stands(t, p, 1, 4*edge, 3, 0)
}

// P9.1: what lies between the old Size and at is 0, within a block and over several; Size is at least the end of what is written.
func TestWriteBehindTheEnd(t *testing.T) {
	for at := 3; at < 4*edge; at++ {
		p := made(t, 2, 1)
		write(t, p, 1, 0, "abc", api.OK)
		write(t, p, 1, at, "x", api.OK)
		reads(t, p, 1, 0, end, "abc"+noughts(at-3)+"x", api.OK)
		used := 1
		if at >= edge {
			used = 2
		}
		stands(t, p, 1, at+1, used, 2-used)
		write(t, p, 1, 1, "yz", api.OK)
		stands(t, p, 1, at+1, used, 2-used)
		reads(t, p, 1, 0, 4, ("ayz" + noughts(at-3) + "x")[:4], api.OK)
	}
}

// P9.2: noughts that are written are bytes too: they take a block.
func TestWriteNoughts(t *testing.T) {
	p := made(t, 2, 1)
	write(t, p, 1, 2*edge, noughts(edge), api.OK)
	stands(t, p, 1, 3*edge, 1, 1)
	write(t, p, 1, 0, "\x00", api.OK)
	stands(t, p, 1, 3*edge, 2, 0)
	write(t, p, 1, edge, "\x00", api.NoSpace)
}

// P9.1: what is written over is gone, the rest stays.
func TestWriteOver(t *testing.T) {
	all := letters(3 * edge)
	for at := range 3*edge + 1 {
		for n := range 4*edge - at {
			p := made(t, 4, 1)
			write(t, p, 1, 0, all, api.OK)
			over := strings.Repeat("z", n)
			write(t, p, 1, at, over, api.OK)
			want := all[:at] + over
			if at+n < len(all) {
				want += all[at+n:]
			}
			reads(t, p, 1, 0, end, want, api.OK)
		}
	}
}

// P9.2: Cut to each size of a full file: blocks wholly behind it are given back, and what was cut away is 0 when it comes within again by Cut.
func TestCutToLess(t *testing.T) {
	all := letters(4 * edge)
	for size := range 4*edge + 1 {
		p := made(t, 5, 1)
		write(t, p, 1, 0, all, api.OK)
		cut(t, p, 1, size, api.OK)
		used := 0
		for from := 0; from < size; from += edge {
			used++
		}
		stands(t, p, 1, size, used, 5-used)
		reads(t, p, 1, 0, end, all[:size], api.OK)
		reads(t, p, 1, size, 1, "", api.OK)
		cut(t, p, 1, 4*edge, api.OK)
		stands(t, p, 1, 4*edge, used, 5-used)
		reads(t, p, 1, 0, end, all[:size]+noughts(4*edge-size), api.OK)
	}
}

// P9.2: what was cut away is 0 when it comes within again by Write.
func TestCutThenWrite(t *testing.T) {
	all := letters(3 * edge)
	for size := range 3*edge + 1 {
		for at := size; at < 3*edge; at++ {
			p := made(t, 3, 1)
			write(t, p, 1, 0, all, api.OK)
			cut(t, p, 1, size, api.OK)
			write(t, p, 1, at, "z", api.OK)
			reads(t, p, 1, 0, end, all[:size]+noughts(at-size)+"z", api.OK)
			cut(t, p, 1, 3*edge, api.OK)
			reads(t, p, 1, 0, end, all[:size]+noughts(at-size)+"z"+noughts(3*edge-at-1), api.OK)
		}
	}
}

// P9.2: Cut to the same size turns nothing; to more leaves a hole, that takes no block.
func TestCutToSameAndMore(t *testing.T) {
	for size := 1; size <= 2*edge+1; size++ {
		p := made(t, 3, 1)
		write(t, p, 1, 0, letters(size), api.OK)
		used := p.Used(1)
		was := look(p, 1)
		cut(t, p, 1, size, api.OK)
		if is := look(p, 1); is != was {
			t.Errorf("P9.2: Cut to the same: %s, want %s", is, was)
		}
		for _, more := range []int{size + 1, size + edge, 5 * edge, 5*edge + 1, end - 1, end} {
			cut(t, p, 1, more, api.OK)
			stands(t, p, 1, more, used, 3-used)
			reads(t, p, 1, 0, end, letters(size)+noughts(more-size), api.OK)
		}
	}
	none := made(t, 0, 1)
	cut(t, none, 1, end, api.OK)
	stands(t, none, 1, end, 0, 0)
	reads(t, none, 1, 0, math.MaxInt, noughts(end), api.OK)
	write(t, none, 1, end-1, "x", api.NoSpace)
	cut(t, none, 1, 0, api.OK)
	stands(t, none, 1, 0, 0, 0)
}

// P9.2: a block stays while its first byte is within, though all that was written into it is cut away.
func TestCutAtABlocksEdge(t *testing.T) {
	p := made(t, 2, 1)
	write(t, p, 1, 0, "a", api.OK)
	write(t, p, 1, edge+9, "b", api.OK)
	cut(t, p, 1, edge+1, api.OK)
	stands(t, p, 1, edge+1, 2, 0)
	cut(t, p, 1, edge+10, api.OK)
	reads(t, p, 1, 0, end, "a"+noughts(edge+9), api.OK)
	stands(t, p, 1, edge+10, 2, 0)
	cut(t, p, 1, edge, api.OK)
	stands(t, p, 1, edge, 1, 1)
	cut(t, p, 1, edge+1, api.OK)
	stands(t, p, 1, edge+1, 1, 1)
	cut(t, p, 1, 1, api.OK)
	stands(t, p, 1, 1, 1, 1)
	cut(t, p, 1, 0, api.OK)
	stands(t, p, 1, 0, 0, 2)
	cut(t, p, 1, 0, api.OK)
	stands(t, p, 1, 0, 0, 2)
	cut(t, p, 1, 2, api.OK)
	reads(t, p, 1, 0, 9, noughts(2), api.OK)
}

// P9.2: Cut below 0 and above MaxSize is refused, and turns nothing.
func TestCutRefuses(t *testing.T) {
	p := made(t, 2, 2)
	write(t, p, 1, 3, letters(edge), api.OK)
	was := look(p, 2)
	for _, f := range []int{1, 2} {
		for _, size := range []int{-1, -2, -edge, -end, math.MinInt, math.MinInt + 1} {
			cut(t, p, f, size, api.Invalid)
		}
		for _, size := range []int{end + 1, end + edge, 1 << 32, 1<<32 + 1, math.MaxInt - 1, math.MaxInt} {
			cut(t, p, f, size, api.TooBig)
		}
	}
	if is := look(p, 2); is != was {
		t.Errorf("P9.2: %s, want %s", is, was)
	}
}

// P9.2: Cut of one file leaves the others as they are.
func TestCutOfOne(t *testing.T) {
	p := made(t, 6, 3)
	for f := 1; f <= 3; f++ {
		write(t, p, f, 0, letters(edge+f), api.OK)
	}
	cut(t, p, 2, 0, api.OK)
	stands(t, p, 1, edge+1, 2, 2)
	stands(t, p, 2, 0, 0, 2)
	stands(t, p, 3, edge+3, 2, 2)
	reads(t, p, 1, 0, end, letters(edge+1), api.OK)
	reads(t, p, 3, 0, end, letters(edge+3), api.OK)
}

// P9.2: Drop gives all back; who takes it finds nothing of what it held, and the file is none from now on.
func TestDrop(t *testing.T) {
	p := made(t, 3, 3)
	write(t, p, 1, 0, letters(3*edge), api.OK)
	write(t, p, 2, 0, "x", api.NoSpace)
	drop(t, p, 1, api.OK)
	stands(t, p, 1, 0, 0, 3)
	drop(t, p, 1, api.ErrArg)
	if p.Left() != 3 {
		t.Errorf("P9.2: dropped twice: %d", p.Left())
	}
	for i := range 3 {
		write(t, p, 2, 5*i*edge+3, "x", api.OK)
		stands(t, p, 2, 5*i*edge+4, i+1, 2-i)
	}
	hole := noughts(5*edge - 1)
	reads(t, p, 2, 0, end, noughts(3)+"x"+hole+"x"+hole+"x", api.OK)
	cut(t, p, 2, 5*edge+9, api.OK)
	reads(t, p, 2, 5*edge, end, noughts(3)+"x"+noughts(5), api.OK)
	write(t, p, 3, 9, "y", api.OK)
	stands(t, p, 3, 10, 1, 0)
	drop(t, p, 2, api.OK)
	stands(t, p, 3, 10, 1, 2)
	reads(t, p, 3, 0, end, noughts(9)+"y", api.OK)
	drop(t, p, 3, api.OK)
	if p.Left() != 3 || p.File() != 4 {
		t.Errorf("P9.2: all dropped: %d", p.Left())
	}
	reads(t, p, 4, 0, end, "", api.OK)
	drop(t, p, 4, api.OK)
	if p.Left() != 3 {
		t.Errorf("P9.2: one without blocks dropped: %d", p.Left())
	}
}

// P9.1: pools have nothing to do with each other.
func TestTwoPools(t *testing.T) {
	p, q := made(t, 1, 1), made(t, 2, 1)
	write(t, p, 1, 0, "abc", api.OK)
	stands(t, q, 1, 0, 0, 2)
	write(t, q, 1, 1, "z", api.OK)
	drop(t, p, 1, api.OK)
	reads(t, q, 1, 0, end, "\x00z", api.OK)
	stands(t, q, 1, 2, 1, 1)
}

// R2: what is read is new memory each time, its spare room too.
func TestReadIsNewMemory(t *testing.T) {
	p := made(t, 3, 2)
	all := letters(2*edge + 3)
	write(t, p, 1, 0, all, api.OK)
	cut(t, p, 2, edge, api.OK)
	for at := range len(all) + 2 {
		for _, n := range []int{0, 1, edge, len(all), math.MaxInt} {
			first, _ := p.Read(1, at, n)
			second, _ := p.Read(1, at, n)
			was := string(second)
			spoil(first)
			if string(second) != was {
				t.Fatalf("R2: Read(1, %d, %d) twice shares memory", at, n)
			}
			spoil(second)
			hole, _ := p.Read(2, at, n)
			spoil(hole)
			reads(t, p, 1, 0, end, all, api.OK)
			reads(t, p, 2, 0, end, noughts(edge), api.OK)
		}
	}
	cut(t, p, 1, end, api.OK)
	reads(t, p, 1, 0, end, all+noughts(end-len(all)), api.OK)
}

// spoil changes all of b, its spare room too.
func spoil(b []byte) {
	b = b[:cap(b)]
	for i := range b {
		b[i] ^= 0xff
	}
}

// R2: what is handed in is neither changed nor kept, its spare room included, whether it is refused or not.
func TestWriteKeepsNothing(t *testing.T) {
	for _, blocks := range []int{0, 1, 2, 9} {
		for at := range edge + 1 {
			for _, n := range []int{0, 1, edge - 1, edge, edge + 1, 2*edge + 1} {
				p := made(t, blocks, 2)
				room := []byte(letters(5 * edge))
				b := room[edge : edge+n]
				for _, f := range []int{1, 2, 3} {
					p.Write(f, at, b)
					p.Write(f, end, b)
					p.Write(f, -1, b)
				}
				if string(room) != letters(5*edge) {
					t.Fatalf("R2: %d blocks: Write(1, %d, %d bytes) changed what it was given", blocks, at, n)
				}
				was := look(p, 2)
				spoil(room)
				if is := look(p, 2); is != was {
					t.Fatalf("R2: %d blocks: Write(1, %d, %d bytes) kept what it was given: %s, want %s", blocks, at, n, is, was)
				}
				spoiled := bytes.Clone(room)
				p.Write(1, at, []byte("over"))
				p.Cut(1, at+1)
				p.Drop(2)
				if !bytes.Equal(room, spoiled) {
					t.Fatalf("R2: %d blocks: what Write(1, %d, %d bytes) was given changed later", blocks, at, n)
				}
			}
		}
	}
}

// R2: bytes that were read may be written, into the same file too, and changed then.
func TestWriteWhatWasRead(t *testing.T) {
	p := made(t, 8, 2)
	write(t, p, 1, 0, letters(2*edge), api.OK)
	b, _ := p.Read(1, 3, edge)
	if p.Write(1, 0, b) != api.OK || p.Write(2, 5, b) != api.OK {
		t.Fatal("R2: Write of what was read")
	}
	spoil(b)
	reads(t, p, 1, 0, end, letters(2 * edge)[3:3+edge]+letters(2 * edge)[edge:], api.OK)
	reads(t, p, 2, 0, end, noughts(5)+letters(2 * edge)[3:3+edge], api.OK)
}
