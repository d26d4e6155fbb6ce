package script_test

import (
	"strings"
	"testing"

	"warren/api"
	"warren/call"
	"warren/script"
)

// none is the item of bytes that are none.
var none = api.Item{}

// P17.2: a byte that is no Kind is an item by itself, and what is behind it is read.
func TestBytesThatAreNoKind(t *testing.T) {
	for b := range 256 {
		s := string([]byte{byte(b)})
		decodes(t, s, none)
		if b >= api.Start && b <= api.Shrink {
			continue
		}
		decodes(t, s+s, none, none)
		decodes(t, s+"\x02\x01\x02", none, stepped(258))
		decodes(t, "\x03\x01\x02"+s, shrunk(258), none)
		decodes(t, "\x02\x00\x07"+s+s+"\x03\x00\x08"+s+"\x02\x00\x09", stepped(7), none, none, shrunk(8), none, stepped(9))
		decodes(t, "\x01\x05"+bare(20)+s+"\x01\x06"+bare(19), started(5, api.Call{Op: 20}), none, started(6, api.Call{Op: 19}))
	}
}

// P17.2: what an item's bytes hold is not taken for a Kind.
func TestKindsInsideItems(t *testing.T) {
	decodes(t, "\x02\x02\x02\x02\x03\x03\x03\x01\x01", stepped(0x0202), stepped(0x0303), shrunk(0x0101))
	decodes(t, "\x02\x00\x00\x03\x00\x00\x02\xff\xff\x03\xff\xff", stepped(0), shrunk(0), stepped(65535), shrunk(65535))
	decodes(t, "\x01\x01\x01\x00\x03\x02\x02\x02"+noughts(24)+"\x03\x02\x01", started(1, api.Call{Op: api.Mkdir, Path: "\x02\x02\x02"}), shrunk(0x0201))
}

// P17.2: where an item is cut off, the rest is one item, how many bytes it has ever.
func TestItemsThatAreCutOff(t *testing.T) {
	c := api.Call{Op: api.Write, Path: "\x02\x00\x01", To: "\x03\x00\x01", Fd: 1, Flags: -1, Mode: 3, N: 4, M: 5, Data: []byte("\x09\x09\x02\x00\x01")}
	for _, i := range []api.Item{stepped(0x0203), shrunk(0x0909), started(2, c), started(9, api.Call{Op: api.Close})} {
		b, _ := script.Encode([]api.Item{i})
		whole := string(b)
		for n := 1; n < len(whole); n++ {
			decodes(t, whole[:n], none)
			decodes(t, "\x02\x00\x07"+whole[:n], stepped(7), none)
			decodes(t, "\x09"+whole[:n], none, none)
			decodes(t, whole+whole[:n], i, none)
		}
		decodes(t, whole, i)
		decodes(t, whole+whole, i, i)
	}
}

// P17.2: a script of several items, cut off at every byte: those ahead of it are whole.
func TestScriptsThatAreCutOff(t *testing.T) {
	l := []api.Item{stepped(1), started(3, api.Call{Op: api.Mkdir, Path: "/a", Mode: 7}), shrunk(2), started(4, api.Call{Op: api.Read, N: 9}), stepped(5)}
	var whole []byte
	ends := map[int]int{0: 0} // which lengths are those of so many whole items
	for k, i := range l {
		b, _ := script.Encode([]api.Item{i})
		whole = append(whole, b...)
		ends[len(whole)] = k + 1
	}
	fine := 0
	for n := 0; n <= len(whole); n++ {
		if k, ok := ends[n]; ok {
			fine = k
			decodes(t, string(whole[:n]), l[:fine]...)
		} else {
			decodes(t, string(whole[:n]), append(l[:fine:fine], none)...)
		}
	}
}

// P17.2: where call.Decode refuses, the rest is one item, whatever is behind the call.
func TestStartsThatAreRefused(t *testing.T) {
	behind := []string{"", "\x02\x00\x01", "\x09", "\x01\x00" + bare(1), "\x02\x00\x01\x03\x00\x02\x09", noughts(3000)}
	for op := range 256 {
		whole := "\x01\x07" + bare(byte(op))
		if op >= api.Mkdir && op <= api.Unbind {
			decodes(t, whole+"\x02\x00\x01", started(7, api.Call{Op: op}), stepped(1))
			continue
		}
		for _, s := range behind {
			decodes(t, whole+s, none)
			decodes(t, "\x03\x00\x05"+whole+s, shrunk(5), none)
		}
	}
	for _, long := range []string{
		"\x01\x07\x01\x13\x89" + xs(5001) + noughts(24),
		"\x01\x07\x01" + noughts(2) + "\x13\x89" + xs(5001) + noughts(22),
		"\x01\x07\x01" + noughts(24) + "\x07\xd1" + xs(2001),
	} {
		for _, s := range behind {
			decodes(t, long+s, none)
			decodes(t, "\x09\x02\x00\x05"+long+s, none, stepped(5), none)
		}
	}
}

// P17.2: a length that goes past the end takes what is behind the call with it.
func TestStartsWhoseLengthGoesPastTheEnd(t *testing.T) {
	decodes(t, "\x01\x00\x01\xff\xff"+noughts(26)+"\x02\x00\x01", none)
	decodes(t, "\x01\x00\x01\x00\x1b"+noughts(24)+"\x02\x00\x01", none)
	decodes(t, "\x01\x00\x01"+noughts(24)+"\x00\x04\x02\x00\x01", none)
	decodes(t, "\x01\x00\x01"+noughts(24)+"\x00\x03\x02\x00\x01", started(0, api.Call{Op: api.Mkdir, Data: []byte("\x02\x00\x01")}))
	decodes(t, "\x01\x00\x01"+noughts(24)+"\x00\x02\x02\x00\x01", started(0, api.Call{Op: api.Mkdir, Data: []byte("\x02\x00")}), none)
}

// P17.2: of more than 1024 items the first ones are told, and the rest is not looked at.
func TestMoreItemsThanMany(t *testing.T) {
	many, _ := script.Encode(steps(1024))
	few := string(many[:3*1023])
	for _, s := range []string{"", "\x09", "\x02", "\x02\x00\x01", "\x01", "\x01\x00" + bare(0), "\x01\x00" + bare(1), noughts(5000), strings.Repeat("\x02\x00\x01", 3000)} {
		decodes(t, string(many)+s, steps(1024)...)
	}
	decodes(t, few, steps(1023)...)
	for _, s := range []string{"\x09", "\x09\x09\x02\x00\x01", "\x02", "\x01\x00" + bare(0) + string(many), noughts(5000)} {
		decodes(t, few+s, append(steps(1023), none)...)
	}
	decodes(t, few+"\x01\x04"+bare(5)+"\x02\x00\x01", append(steps(1023), started(4, api.Call{Op: 5}))...)
	for _, n := range []int{1023, 1024, 1025, 5000, 1 << 20} {
		decodes(t, noughts(n), make([]api.Item, min(n, 1024))...)
		decodes(t, "\x02\x00\x09"+noughts(n), append([]api.Item{stepped(9)}, make([]api.Item, min(n, 1023))...)...)
	}
}

// P17.2: 1024 Starts, each as long as may be.
func TestManyLongStarts(t *testing.T) {
	i := started(8, api.Call{Op: api.Rename, Path: xs(5000), To: xs(5000), Data: []byte(xs(2000))})
	l := make([]api.Item, 1024)
	for k := range l {
		l[k] = i
	}
	b, why := script.Encode(l)
	if why != api.OK || len(b) != 1024*(2+27+12000) {
		t.Fatalf("Encode of 1024 long Starts: %d bytes, %v", len(b), why)
	}
	decodes(t, string(b), l...)
	decodes(t, string(b)+"\x09", l...)
	decodes(t, string(b[:len(b)-1]), append(l[:1023:1023], none)...)
}

// P17.2: no bytes, said in each way.
func TestDecodeOfNothing(t *testing.T) {
	for _, b := range [][]byte{nil, {}, []byte("\x02\x00\x05")[:0]} {
		if l := script.Decode(b); len(l) != 0 {
			t.Errorf("Decode of nothing: %s", shows(l))
		}
	}
}

// R3: what is no item has nothing beside its Kind.
func TestNoItemIsZero(t *testing.T) {
	for _, s := range []string{"\x09", "\x01", "\x01\x07", "\x01\x07\x06", "\x02\x05", "\x03\x05", "\x01\x07" + bare(0), "\x01\x07" + bare(6)[:26]} {
		for _, i := range script.Decode([]byte(s)) {
			if i.Kind != 0 || i.Thread != 0 || i.N != 0 || !sameCall(i.Call, api.Call{}) {
				t.Errorf("Decode(%x): %s", s, show(i))
			}
		}
	}
}

// R5: the room behind the bytes is not read.
func TestDecodeReadsNoSpareRoom(t *testing.T) {
	for _, i := range []api.Item{stepped(0x0203), shrunk(1), started(2, api.Call{Op: api.Write, Path: "/p", Data: []byte("data")})} {
		b, _ := script.Encode([]api.Item{i, i})
		for n := 1; n < len(b)/2; n++ {
			if l := script.Decode(b[:n]); len(l) != 1 || !same(l[0], none) {
				t.Errorf("Decode of %d bytes with room behind them: %s", n, shows(l))
			}
		}
		if l := script.Decode(b[:len(b)/2]); len(l) != 1 || !same(l[0], i) {
			t.Errorf("Decode of an item with room behind it: %s", shows(l))
		}
	}
}

// P17.2: a call in a Start is the one that call.Decode reads there.
func TestStartsAreReadAsCalls(t *testing.T) {
	for _, c := range []api.Call{
		{Op: api.Mkdir, Path: "/a b", Mode: 5}, {Op: api.Seek, Fd: -1, N: -1 << 31, M: 1<<31 - 1}, {Op: api.Write, Data: []byte("\x00\x01\x02")},
		{Op: api.Rename, Path: "\xff", To: "\x00"}, {Op: api.Open, Path: xs(256), Flags: 255},
	} {
		b, _ := call.Encode(c)
		decodes(t, "\x01\x10"+string(b), started(16, c))
	}
}
