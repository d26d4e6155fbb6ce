package dcache_test

import (
	"bytes"
	"strings"
	"testing"
	"unsafe"

	"warren/dcache"
)

// loose answers a text that lies in the bytes, as one that was made of them without a copy does.
func loose(b []byte) string { return unsafe.String(unsafe.SliceData(b), len(b)) }

// R2: a name that is handed in is not kept: what becomes of its memory later turns nothing.
func TestNamesAreNotKept(t *testing.T) {
	c := made(t, 2)
	b := []byte("name")
	c.Put(1, loose(b), 5)
	copy(b, "else")
	is(t, c, entry{1, "name", 5})
	misses(t, c, entry{1, "else", 0})
	c.Get(1, loose(b))
	c.Drop(1, loose(b))
	copy(b, "name")
	c.Get(1, loose(b))
	goes(t, c, entry{1, loose(b), 6}, "")
	copy(b, "more")
	goes(t, c, entry{1, "x", 7}, "")
	goes(t, c, entry{1, "y", 8}, "name")
}

// R2: a name that is handed in is not changed, nor is what lies behind it.
func TestNamesAreNotChanged(t *testing.T) {
	b := []byte("name and room")
	c := made(t, 1)
	c.Put(1, loose(b[:4]), 5)
	c.Get(1, loose(b[:4]))
	c.Put(2, loose(b[:4]), 0)
	c.Drop(2, loose(b[:4]))
	if !bytes.Equal(b, []byte("name and room")) {
		t.Errorf("%q", b)
	}
}

// R2: the name that went lies in memory of its own.
func TestAnswersAreNewMemory(t *testing.T) {
	name := strings.Repeat("n", 100)
	c, _ := dcache.New(1)
	c.Put(1, name, 5)
	gone := c.Put(1, "other", 6)
	if gone != name || unsafe.StringData(gone) == unsafe.StringData(name) {
		t.Error("the name that went is the one that was handed in")
	}
}

// R4: the same calls are answered the same, time and again.
func TestSameAnswers(t *testing.T) {
	for range 50 {
		c := filled(t, 9, numbered(1, 9)...)
		for _, e := range numbered(2, 9) {
			goes(t, c, e, e.name)
		}
		if n := c.Shrink(5); n != 5 {
			t.Fatal(n)
		}
		misses(t, c, numbered(2, 5)...)
		is(t, c, numbered(2, 9)[5:]...)
	}
}
