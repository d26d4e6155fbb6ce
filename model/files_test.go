package model_test

import (
	"math"
	"strings"
	"testing"

	"warren/api"
)

// far is where a Seek may come to at most.
const far = 1 << 31

// noFds are descriptors that none has who has one file open.
var noFds = []int{-1, 1, 7, 8, math.MinInt, math.MaxInt}

// P15.2: BadFd of a descriptor that the process has not, ahead of all else, also if another one has it.
func TestBadFd(t *testing.T) {
	w := made(t, open("/f", both|mk))
	for _, fd := range noFds {
		w.refuses(root, api.BadFd, shut(fd), read(fd, 1), read(fd, -1), write(fd, "x"), write(fd, ""), write(fd, noughts(2000)), seek(fd, 0, 0), seek(fd, -1, 0), seek(fd, 0, 3), seek(fd, math.MinInt, -1))
	}
	for _, proc := range []int{ann, bob, carl} {
		w.refuses(proc, api.BadFd, shut(0), read(0, 1), read(0, -1), write(0, "x"), seek(0, 0, 0), seek(0, 0, 9))
	}
	w.opens(ann, "/f", rd, 0)
	w.silent(ann, shut(0))
	w.refuses(ann, api.BadFd, shut(0), read(0, 1), seek(0, 0, 0))
	w.silent(root, shut(0))
	w.refuses(root, api.BadFd, shut(0), write(0, "x"))
}

// P15.2: a descriptor is used as it was opened: Read asks for ForRead, Write for ForWrite, Seek and Close for neither.
func TestForReadForWrite(t *testing.T) {
	w := made(t, open("/f", both|mk), write(0, "abc"))
	w.opens(root, "/f", rd, 1)
	w.opens(root, "/f", wr, 2)
	w.opens(root, "/f", rd|ap, 3)
	w.opens(root, "/f", wr|ap, 4)
	for _, fd := range []int{1, 3} {
		w.refuses(root, api.BadFd, write(fd, "x"), write(fd, ""), write(fd, noughts(2000)))
		w.reads(root, fd, 2, "ab")
	}
	for _, fd := range []int{2, 4} {
		w.refuses(root, api.BadFd, read(fd, 1), read(fd, 0), read(fd, -1), read(fd, math.MinInt))
		w.seeks(root, fd, 2, 0, 2)
		w.writes(root, fd, "x")
	}
	w.seeks(root, 0, 0, 0, 0)
	w.reads(root, 0, 9, "abxx")
	for fd := range 5 {
		w.silent(root, shut(fd))
	}
}

// P15.2: of a Dir that is open: Read and Seek are IsDir, ahead of Invalid, Write is BadFd, Close closes it.
func TestOpenDir(t *testing.T) {
	w := made(t, mkdir("/d"), open("/d", rd))
	w.opens(root, "/", rd|od|ap, 1)
	for fd := range 2 {
		w.refuses(root, api.IsDir, read(fd, 0), read(fd, 9), read(fd, -1), seek(fd, 0, 0), seek(fd, 0, 1), seek(fd, 0, 2), seek(fd, -1, 0), seek(fd, 0, 3), seek(fd, math.MaxInt, -1))
		w.refuses(root, api.BadFd, write(fd, ""), write(fd, "x"))
	}
	w.counts([]int{1, 2}, 0, 2)
	w.silent(root, rmdir("/d"))
	w.refuses(root, api.IsDir, read(0, 1), seek(0, 0, 0))
	w.counts([]int{1, 2}, 0, 2)
	w.silent(root, shut(0), shut(1))
	w.counts([]int{1}, 0, 0)
}

// P15.2, Close: the descriptor is gone, and no other; whatever else the call has is not asked.
func TestClose(t *testing.T) {
	w := made(t, open("/f", both|mk), open("/f", rd), open("/f", wr))
	w.opens(ann, "/f", rd, 0)
	w.answers(root, api.Call{Op: api.Close, Fd: 1, Path: "\x00", To: "/no", Flags: 256, Mode: -1, N: -1, M: 9, Data: []byte("x")}, api.Result{})
	w.refuses(root, api.BadFd, shut(1))
	w.at(root, 0, 0)
	w.at(root, 2, 0)
	w.at(ann, 0, 0)
	w.counts([]int{1, 2}, 0, 3)
	w.opens(root, "/f", rd, 1)
}

// P15.2, Read: N bytes at most, from where the descriptor is, which is behind them then. Data alone is told.
func TestRead(t *testing.T) {
	w := made(t, open("/f", both|mk), write(0, "abcdefghij"), open("/f", rd))
	for _, c := range []struct {
		n    int
		want string
		at   int
	}{{0, "", 0}, {1, "a", 1}, {3, "bcd", 4}, {0, "", 4}, {99, "efghij", 10}, {1, "", 10}, {0, "", 10}, {math.MaxInt, "", 10}} {
		w.reads(root, 1, c.n, c.want)
		w.at(root, 1, c.at)
	}
	w.refuses(root, api.Invalid, read(1, -1), read(1, -2), read(1, math.MinInt))
	w.seeks(root, 1, 9, 0, 9)
	w.refuses(root, api.Invalid, read(1, -1))
	w.reads(root, 1, math.MaxInt, "j")
	for _, behind := range []int{10, 11, 5000, far - 1, far} {
		w.seeks(root, 1, behind, 0, behind)
		w.reads(root, 1, 5, "")
		w.refuses(root, api.Invalid, read(1, -5))
		w.at(root, 1, behind)
	}
	w.at(root, 0, 10)
	w.does(root, truncate("/f", 14), seek(1, 8, 0))
	w.reads(root, 1, 9, "ij"+noughts(4))
}

// P15.2, Write: the bytes stand where the descriptor is, which is behind them then. N alone is told: how many.
func TestWrite(t *testing.T) {
	w := made(t, open("/f", both|mk), open("/f", both))
	w.writes(root, 0, "abcdef")
	w.at(root, 0, 6)
	w.at(root, 1, 0)
	w.writes(root, 1, "XY")
	w.at(root, 1, 2)
	w.reads(root, 1, 9, "cdef")
	w.writes(root, 1, "")
	w.answers(root, api.Call{Op: api.Write, Fd: 1}, api.Result{})
	w.at(root, 1, 6)
	w.answers(root, api.Call{Op: api.Write, Fd: 1, Data: []byte("g"), Path: "/f", Flags: 256, N: -9, M: 9}, api.Result{N: 1})
	w.seeks(root, 0, 0, 0, 0)
	w.reads(root, 0, 99, "XYcdefg")
	w.does(root, truncate("/f", 1))
	w.writes(root, 1, "z")
	w.seeks(root, 0, 0, 0, 0)
	w.reads(root, 0, 99, "X"+noughts(6)+"z")
}

// P15.2, Write of nothing: done wherever the descriptor is, which stays there; with Append it is at Size then.
func TestWriteNothing(t *testing.T) {
	w := made(t, open("/f", both|mk), write(0, "abc"), open("/f", wr|ap))
	for _, pos := range []int{0, 1, 3, 40, api.MaxSize, api.MaxSize + 5, far} {
		w.seeks(root, 0, pos, 0, pos)
		w.writes(root, 0, "")
		w.at(root, 0, pos)
		w.seeks(root, 1, pos, 0, pos)
		w.writes(root, 1, "")
		w.at(root, 1, 3)
	}
	w.counts([]int{1, 2}, 1, 2)
	if st := w.stat("/f"); st.Size != 3 {
		t.Errorf("it has %d bytes", st.Size)
	}
	w.does(root, truncate("/f", 0))
	w.writes(root, 1, "")
	w.at(root, 1, 0)
	w.counts([]int{1, 2}, 0, 2)
}

// P15.2, Write with Append: at Size, wherever the descriptor is, also if others have written since.
func TestAppend(t *testing.T) {
	w := made(t, open("/f", both|mk), open("/f", both|ap), open("/f", wr|ap))
	w.writes(root, 0, "abc")
	w.at(root, 1, 0)
	w.writes(root, 1, "de")
	w.at(root, 1, 5)
	w.writes(root, 2, "f")
	w.at(root, 2, 6)
	w.seeks(root, 1, 1, 0, 1)
	w.reads(root, 1, 2, "bc")
	w.writes(root, 1, "g")
	w.at(root, 1, 7)
	w.writes(root, 0, "D")
	w.does(root, truncate("/f", 20))
	w.writes(root, 2, "!")
	w.seeks(root, 0, 0, 0, 0)
	w.reads(root, 0, 99, "abcDefg"+noughts(13)+"!")
	w.seeks(root, 2, far, 0, far)
	w.writes(root, 2, "?")
	w.at(root, 2, 22)
}

// P15.2, Write: what tree.Write refuses: TooBig ahead of NoSpace; then the descriptor is where it was, with Append, too.
func TestWriteRefused(t *testing.T) {
	w := sized(t, api.Config{Nodes: 9, Blocks: 3, Files: 9}, people())
	w.does(root, open("/f", both|mk), open("/f", wr|ap), write(0, "abc"), seek(1, 1, 0))
	w.refuses(root, api.TooBig, write(0, noughts(api.MaxSize)), write(1, noughts(api.MaxSize-2)), write(0, strings.Repeat("x", 4000)))
	w.refuses(root, api.NoSpace, write(0, noughts(api.MaxSize-3)), write(1, noughts(api.MaxSize-3)), write(0, noughts(46)), write(1, noughts(46)))
	w.at(root, 0, 3)
	w.at(root, 1, 1)
	for _, pos := range []int{api.MaxSize, api.MaxSize + 1, far} {
		w.seeks(root, 0, pos, 0, pos)
		w.refuses(root, api.TooBig, write(0, "x"))
		w.at(root, 0, pos)
	}
	w.seeks(root, 0, api.MaxSize-1, 0, api.MaxSize-1)
	w.refuses(root, api.TooBig, write(0, "xy"))
	w.writes(root, 0, "x")
	w.at(root, 0, api.MaxSize)
	w.refuses(root, api.TooBig, write(1, "x"))
	w.counts([]int{1, 2}, 2, 2)
	w.seeks(root, 0, 20, 0, 20)
	w.writes(root, 0, "y")
	w.refuses(root, api.NoSpace, write(0, noughts(20)), write(0, noughts(12)))
	w.writes(root, 0, noughts(11))
	w.counts([]int{1, 2}, 3, 2)
}

// P15.2, Seek: from 0, from where it is, from Size; N is where it is then.
func TestSeek(t *testing.T) {
	w := made(t, open("/f", both|mk), write(0, "abcdefghij"), open("/f", wr|ap))
	for fd := range 2 {
		w.seeks(root, fd, 4, 0, 4)
		w.seeks(root, fd, 3, 1, 7)
		w.seeks(root, fd, -7, 1, 0)
		w.seeks(root, fd, 0, 2, 10)
		w.seeks(root, fd, -10, 2, 0)
		w.seeks(root, fd, 5, 2, 15)
		w.seeks(root, fd, 0, 0, 0)
	}
	w.seeks(root, 1, 6, 0, 6)
	w.at(root, 0, 0)
	w.reads(root, 0, 3, "abc")
	w.seeks(root, 0, -1, 1, 2)
	w.reads(root, 0, 3, "cde")
	w.answers(root, api.Call{Op: api.Seek, N: 1, Path: "\x00", Flags: 256, Mode: -1, Data: []byte("x")}, api.Result{N: 1})
	if st := w.stat("/f"); st.Size != 10 {
		t.Errorf("it has %d bytes", st.Size)
	}
	w.does(root, truncate("/f", 3))
	w.seeks(root, 0, 1, 2, 4)
}

// P15.2, Seek: Invalid of an M that is none, of an N beyond 2^31 either way, and of where it would be, below 0 or beyond 2^31; then it is where it was.
func TestSeekInvalid(t *testing.T) {
	w := made(t, open("/f", both|mk), write(0, "abcdefghij"))
	for _, pos := range []int{0, 1, 10, 1 << 20, far - 1, far} {
		w.seeks(root, 0, pos, 0, pos)
		for _, from := range []int{-1, 3, 4, math.MinInt, math.MaxInt} {
			w.refuses(root, api.Invalid, seek(0, 0, from), seek(0, 1, from), seek(0, far+1, from))
		}
		for from, base := range []int{0, pos, 10} {
			for _, n := range []int{-far - 1, far + 1, math.MinInt, math.MaxInt, math.MaxInt - pos, math.MinInt + 1, -base - 1, far - base + 1} {
				w.refuses(root, api.Invalid, seek(0, n, from))
			}
			for _, n := range []int{-base, -base + 1, far - base, far - base - 1, 0} {
				w.seeks(root, 0, n, from, base+n)
				w.seeks(root, 0, pos, 0, pos)
			}
		}
	}
	// N may be as low as -2^31 and as high as 2^31, where that comes to a place that may be.
	w.seeks(root, 0, far, 0, far)
	w.seeks(root, 0, -far, 1, 0)
	w.seeks(root, 0, far, 1, far)
	w.refuses(root, api.Invalid, seek(0, -far-1, 1), seek(0, 1, 1), seek(0, far, 1), seek(0, far, 2), seek(0, -far, 0), seek(0, -far, 2))
	w.at(root, 0, far)
}
