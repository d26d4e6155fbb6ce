package script_test

import (
	"bytes"
	"fmt"
	"math"
	"slices"
	"strings"
	"testing"

	"warren/api"
	"warren/call"
	"warren/script"
)

// xs answers a text of so many letters.
func xs(n int) string { return strings.Repeat("x", n) }

// noughts answers so many bytes 0.
func noughts(n int) string { return strings.Repeat("\x00", n) }

// bare are the bytes of a call of this Op whose fields are all 0 and empty.
func bare(op byte) string { return string([]byte{op}) + noughts(26) }

// sameCall holds two calls against each other; nil and empty Data are the same.
func sameCall(c, d api.Call) bool {
	return c.Op == d.Op && c.Path == d.Path && c.To == d.To && c.Fd == d.Fd && c.Flags == d.Flags &&
		c.Mode == d.Mode && c.N == d.N && c.M == d.M && bytes.Equal(c.Data, d.Data)
}

// same holds two items against each other.
func same(i, k api.Item) bool {
	return i.Kind == k.Kind && i.Thread == k.Thread && i.N == k.N && sameCall(i.Call, k.Call)
}

// started answers the Start of this call by that thread.
func started(thread int, c api.Call) api.Item {
	return api.Item{Kind: api.Start, Thread: thread, Call: c}
}

// stepped answers the Step of this number.
func stepped(n int) api.Item { return api.Item{Kind: api.Step, N: n} }

// shrunk answers the Shrink of this number.
func shrunk(n int) api.Item { return api.Item{Kind: api.Shrink, N: n} }

// steps answers so many Steps, the one at k with the number k.
func steps(n int) []api.Item {
	l := make([]api.Item, n)
	for k := range l {
		l[k] = stepped(k)
	}
	return l
}

// show answers the item's fields as a text.
func show(i api.Item) string {
	return fmt.Sprintf("{%d %d %d %.60s}", i.Kind, i.Thread, i.N, call.Text(i.Call))
}

// shows answers the items' fields, of the first few.
func shows(l []api.Item) string {
	var out []string
	for _, i := range l[:min(len(l), 12)] {
		out = append(out, show(i))
	}
	return strings.Join(out, " ")
}

// encodes lets Encode answer just these bytes.
func encodes(t *testing.T, l []api.Item, want string) {
	t.Helper()
	if b, why := script.Encode(l); why != api.OK || string(b) != want {
		t.Errorf("Encode(%.200s): %.60x, %v, want %.60x", shows(l), b, why, want)
	}
}

// encodesNot lets Encode refuse the list for this reason, with nothing beside it.
func encodesNot(t *testing.T, l []api.Item, want api.Errno) {
	t.Helper()
	if b, why := script.Encode(l); why != want || len(b) != 0 {
		t.Errorf("Encode of %d items (%.200s): %d bytes, %v, want %v", len(l), shows(l), len(b), why, want)
	}
}

// decodes lets Decode answer just these items.
func decodes(t *testing.T, s string, want ...api.Item) {
	t.Helper()
	if l := script.Decode([]byte(s)); !slices.EqualFunc(l, want, same) {
		t.Errorf("Decode(%.60x): %d items %.200s, want %d %.200s", s, len(l), shows(l), len(want), shows(want))
	}
}

// writes lets Right take the item, Encode answer just these bytes of it, and Decode the item from them.
func writes(t *testing.T, i api.Item, want string) {
	t.Helper()
	if why := script.Right(i); why != api.OK {
		t.Errorf("Right(%.200s): %v", show(i), why)
	}
	encodes(t, []api.Item{i}, want)
	decodes(t, want, i)
}

// refuses lets Right refuse the item for this reason, and Encode each list in which it is.
func refuses(t *testing.T, i api.Item, want api.Errno) {
	t.Helper()
	if why := script.Right(i); why != want {
		t.Errorf("Right(%.200s): %v, want %v", show(i), why, want)
	}
	encodesNot(t, []api.Item{i}, want)
	encodesNot(t, []api.Item{stepped(1), i}, want)
	encodesNot(t, []api.Item{i, shrunk(1)}, want)
}

// The chapter's runs and examples.
func TestRunsAndExamples(t *testing.T) {
	decodes(t, "\x02\x00\x05", stepped(5))
	decodes(t, "\x09", api.Item{})
	decodes(t, "\x01", api.Item{})
	decodes(t, "")
	decodes(t, "\x02\x00", api.Item{})
	encodesNot(t, []api.Item{{}}, api.ErrArg)
}

// P17.1: Start, Step and Shrink, and none else, whatever is beside it.
func TestKinds(t *testing.T) {
	writes(t, started(0, api.Call{Op: api.Close}), "\x01\x00"+bare(4))
	writes(t, stepped(0), "\x02\x00\x00")
	writes(t, shrunk(0), "\x03\x00\x00")
	for _, kind := range []int{0, 4, 5, 9, -1, -2, -255, 255, 256, 257, 258, 1<<32 + 1, 1<<32 + 2, math.MinInt, math.MaxInt} {
		refuses(t, api.Item{Kind: kind}, api.ErrArg)
		refuses(t, api.Item{Kind: kind, N: 1}, api.ErrArg)
		refuses(t, api.Item{Kind: kind, Thread: 1, Call: api.Call{Op: api.Mkdir}}, api.ErrArg)
		refuses(t, api.Item{Kind: kind, Call: api.Call{Op: api.Mkdir, Path: xs(5001)}}, api.ErrArg)
	}
}

// wrong are numbers that neither a Thread nor N may be.
func wrong() []int {
	return []int{-1, -2, -255, -256, -65535, -65536, 65536, 65537, 1 << 31, 1 << 32, 1<<32 + 1, math.MinInt, math.MaxInt}
}

// P17.1: a Start asks for a Thread 0 to 255, in one byte.
func TestThreads(t *testing.T) {
	c := api.Call{Op: api.Unbind}
	for thread := range 256 {
		writes(t, started(thread, c), string([]byte{1, byte(thread)})+bare(20))
	}
	for _, thread := range append(wrong(), 256, 257, 511, 512, 65535) {
		refuses(t, started(thread, c), api.ErrArg)
		refuses(t, api.Item{Kind: api.Step, Thread: thread}, api.ErrArg)
		refuses(t, api.Item{Kind: api.Shrink, Thread: thread}, api.ErrArg)
	}
}

// P17.1: Step and Shrink ask for N 0 to 65535, in two bytes, the highest first.
func TestNumbers(t *testing.T) {
	for n, want := range map[int]string{
		0: "\x00\x00", 1: "\x00\x01", 2: "\x00\x02", 255: "\x00\xff", 256: "\x01\x00", 257: "\x01\x01", 258: "\x01\x02",
		0x1234: "\x12\x34", 32767: "\x7f\xff", 32768: "\x80\x00", 65280: "\xff\x00", 65534: "\xff\xfe", 65535: "\xff\xff",
	} {
		writes(t, stepped(n), "\x02"+want)
		writes(t, shrunk(n), "\x03"+want)
	}
	for _, n := range wrong() {
		refuses(t, stepped(n), api.ErrArg)
		refuses(t, shrunk(n), api.ErrArg)
		refuses(t, api.Item{Kind: api.Start, N: n, Call: api.Call{Op: api.Mkdir}}, api.ErrArg)
	}
}

// P17.1: a Start does not ask for N, and the others not for a Thread.
func TestNumbersThatAreNotAskedFor(t *testing.T) {
	for _, n := range []int{1, 2, 255, 256, 65535} {
		refuses(t, api.Item{Kind: api.Start, N: n, Call: api.Call{Op: api.Mkdir}}, api.ErrArg)
		refuses(t, api.Item{Kind: api.Start, N: n, Thread: 3, Call: api.Call{Op: api.Mkdir, Path: "/a"}}, api.ErrArg)
	}
	for _, thread := range []int{1, 2, 254, 255} {
		refuses(t, api.Item{Kind: api.Step, Thread: thread}, api.ErrArg)
		refuses(t, api.Item{Kind: api.Shrink, Thread: thread, N: 7}, api.ErrArg)
	}
}

// single are calls with one field that is not zero, as call.Right would take it in a call or not.
func single() []api.Call {
	out := []api.Call{
		{Path: "p"}, {Path: "\x00"}, {Path: xs(5001)}, {To: "t"}, {To: "\x00"}, {To: xs(5001)},
		{Data: []byte{0}}, {Data: []byte("data")}, {Data: []byte(xs(2001))},
	}
	for _, n := range []int{1, -1, 20, 21, 256, 65536, math.MaxInt32 + 1, 1 << 32, math.MaxInt, math.MinInt} {
		out = append(out, api.Call{Op: n}, api.Call{Fd: n}, api.Call{Flags: n}, api.Call{Mode: n}, api.Call{N: n}, api.Call{M: n})
	}
	return out
}

// P17.1: Step and Shrink do not ask for a call, no field of it.
func TestCallsThatAreNotAskedFor(t *testing.T) {
	for _, c := range single() {
		refuses(t, api.Item{Kind: api.Step, Call: c}, api.ErrArg)
		refuses(t, api.Item{Kind: api.Step, N: 5, Call: c}, api.ErrArg)
		refuses(t, api.Item{Kind: api.Shrink, Call: c}, api.ErrArg)
	}
	whole := api.Call{Op: api.Mkdir, Path: "/a", Mode: 0o755}
	refuses(t, api.Item{Kind: api.Step, Call: whole}, api.ErrArg)
	refuses(t, api.Item{Kind: api.Shrink, Call: whole}, api.ErrArg)
}

// R4: Data that is empty but not nil is nothing, be there room behind it.
func TestDataThatIsEmpty(t *testing.T) {
	for _, data := range [][]byte{nil, {}, []byte("room")[:0]} {
		writes(t, api.Item{Kind: api.Step, N: 5, Call: api.Call{Data: data}}, "\x02\x00\x05")
		writes(t, api.Item{Kind: api.Shrink, Call: api.Call{Data: data}}, "\x03\x00\x00")
		writes(t, started(1, api.Call{Op: api.Write, Data: data}), "\x01\x01"+bare(6))
	}
}

// wrongCalls are calls by the refusal that call.Right has for them.
func wrongCalls() map[api.Errno][]api.Call {
	out := map[api.Errno][]api.Call{api.ErrLong: {
		{Op: api.Mkdir, Path: xs(5001)}, {Op: api.Rename, To: xs(5001)}, {Op: api.Write, Data: []byte(xs(2001))},
		{Op: api.Unbind, Path: xs(5001), To: xs(5001), Data: []byte(xs(2001))}, {Op: api.Mkdir, Path: xs(70000)},
	}}
	for _, op := range []int{0, 21, -1, 255, 256, 257, math.MinInt, math.MaxInt} {
		out[api.ErrArg] = append(out[api.ErrArg], api.Call{Op: op}, api.Call{Op: op, Path: xs(5001)})
	}
	for _, n := range []int{math.MaxInt32 + 1, math.MinInt32 - 1, math.MaxInt, math.MinInt} {
		for _, c := range []api.Call{{Fd: n}, {Flags: n}, {Mode: n}, {N: n}, {M: n}} {
			c.Op = api.Seek
			out[api.ErrArg] = append(out[api.ErrArg], c)
			c.Data = []byte(xs(2001))
			out[api.ErrArg] = append(out[api.ErrArg], c)
		}
	}
	return out
}

// P17.1: of a Start, what call.Right answers of its call.
func TestCallsThatAreRefused(t *testing.T) {
	refuses(t, api.Item{Kind: api.Start}, api.ErrArg)
	for want, calls := range wrongCalls() {
		for _, c := range calls {
			refuses(t, started(0, c), want)
			refuses(t, started(255, c), want)
		}
	}
}

// P17.1: what the item itself has wrong is told ahead of what its call has.
func TestRightRefusesInOrder(t *testing.T) {
	for _, c := range wrongCalls()[api.ErrLong] {
		refuses(t, started(7, c), api.ErrLong)
		for _, n := range append(wrong(), 256) {
			refuses(t, started(n, c), api.ErrArg)
		}
		for _, n := range append(wrong(), 1, 65535) {
			refuses(t, api.Item{Kind: api.Start, N: n, Call: c}, api.ErrArg)
		}
	}
}

// P17.1: a Start is its Kind, its Thread and what call.Encode writes, for every call.
func TestEncodeOfStarts(t *testing.T) {
	for op := byte(api.Mkdir); op <= api.Unbind; op++ {
		writes(t, started(int(op), api.Call{Op: int(op)}), string([]byte{1, op})+bare(op))
	}
	writes(t, started(3, api.Call{Op: api.Write, Path: "/p", To: "t", Fd: 1, Flags: 2, Mode: 3, N: 4, M: -5, Data: []byte("\x00d\xff")}),
		"\x01\x03\x06\x00\x02/p\x00\x01t\x00\x00\x00\x01\x00\x00\x00\x02\x00\x00\x00\x03\x00\x00\x00\x04\xff\xff\xff\xfb\x00\x03\x00d\xff")
	writes(t, started(255, api.Call{Op: api.Unbind, Path: xs(5000), To: xs(5000), Data: []byte(xs(2000))}),
		"\x01\xff\x14\x13\x88"+xs(5000)+"\x13\x88"+xs(5000)+noughts(20)+"\x07\xd0"+xs(2000))
}

// P17.1: the items one behind the other, with nothing between, ahead or behind.
func TestEncodeOfLists(t *testing.T) {
	encodes(t, nil, "")
	encodes(t, []api.Item{}, "")
	encodes(t, steps(3)[:0], "")
	encodes(t, []api.Item{shrunk(1), stepped(2), stepped(0x0102)}, "\x03\x00\x01\x02\x00\x02\x02\x01\x02")
	c := api.Call{Op: api.Close, M: 1}
	encodes(t, []api.Item{stepped(7), started(9, c), started(8, c), shrunk(6)},
		"\x02\x00\x07\x01\x09\x04"+noughts(23)+"\x01\x00\x00\x01\x08\x04"+noughts(23)+"\x01\x00\x00\x03\x00\x06")
}

// P17.1: 1024 items may be written, and no more.
func TestManyItems(t *testing.T) {
	for _, n := range []int{1, 2, 1023, 1024} {
		want := ""
		for k := range n {
			want += string([]byte{2, byte(k >> 8), byte(k)})
		}
		encodes(t, steps(n), want)
		decodes(t, want, steps(n)...)
	}
	for _, n := range []int{1025, 1026, 2048, 65536} {
		encodesNot(t, steps(n), api.ErrMany)
	}
}

// P17.1: that there are too many is told first, wherever one is refused.
func TestManyItemsAreToldFirst(t *testing.T) {
	long := started(0, api.Call{Op: api.Mkdir, Path: xs(5001)})
	for _, at := range []int{0, 1, 1023, 1024} {
		for _, i := range []api.Item{{}, long, stepped(-1)} {
			l := steps(1025)
			l[at] = i
			encodesNot(t, l, api.ErrMany)
		}
	}
	for at, want := range map[int]api.Errno{0: api.ErrLong, 1: api.ErrLong, 512: api.ErrLong, 1023: api.ErrLong} {
		l := steps(1024)
		l[at] = long
		encodesNot(t, l, want)
		l[at] = api.Item{Kind: 4}
		encodesNot(t, l, api.ErrArg)
	}
}

// P17.1: of several items that are refused the first one's refusal is told.
func TestFirstRefusalIsTold(t *testing.T) {
	long := started(0, api.Call{Op: api.Write, Data: []byte(xs(2001))})
	for _, other := range []api.Item{{}, {Kind: 4}, stepped(65536), {Kind: api.Start}, {Kind: api.Shrink, Thread: 1}} {
		encodesNot(t, []api.Item{long, other}, api.ErrLong)
		encodesNot(t, []api.Item{other, long}, api.ErrArg)
		l := steps(1024)
		l[1022], l[1023] = long, other
		encodesNot(t, l, api.ErrLong)
		l[1022], l[1023] = other, long
		encodesNot(t, l, api.ErrArg)
	}
}
