package call_test

import (
	"bytes"
	"math"
	"slices"
	"strings"
	"testing"

	"warren/api"
	"warren/call"
)

// xs answers a text of so many letters.
func xs(n int) string { return strings.Repeat("x", n) }

// noughts answers so many bytes 0.
func noughts(n int) string { return strings.Repeat("\x00", n) }

// same holds two calls against each other; nil and empty Data are the same.
func same(c, d api.Call) bool {
	return c.Op == d.Op && c.Path == d.Path && c.To == d.To && c.Fd == d.Fd && c.Flags == d.Flags &&
		c.Mode == d.Mode && c.N == d.N && c.M == d.M && bytes.Equal(c.Data, d.Data)
}

// number is a field of a call that is a number.
type number struct {
	word string
	of   func(*api.Call) *int
}

// fields are the numbers of a call in the order of its bytes.
func fields() []number {
	return []number{
		{"fd", func(c *api.Call) *int { return &c.Fd }},
		{"flags", func(c *api.Call) *int { return &c.Flags }},
		{"mode", func(c *api.Call) *int { return &c.Mode }},
		{"n", func(c *api.Call) *int { return &c.N }},
		{"m", func(c *api.Call) *int { return &c.M }},
	}
}

// with answers the call with this number in that field.
func with(c api.Call, f number, n int) api.Call {
	*f.of(&c) = n
	return c
}

// writes lets Right take the call, Encode answer just these bytes, and Decode the call from them.
func writes(t *testing.T, c api.Call, want string) {
	t.Helper()
	if why := call.Right(c); why != api.OK {
		t.Errorf("Right(%.60q): %v", call.Text(c), why)
	}
	b, why := call.Encode(c)
	if why != api.OK || string(b) != want {
		t.Errorf("Encode(%.60q): %.60x, %v, want %.60x", call.Text(c), b, why, want)
	}
	reads(t, want, c, len(want))
}

// refuses lets Right and Encode refuse the call for this reason.
func refuses(t *testing.T, c api.Call, want api.Errno) {
	t.Helper()
	if why := call.Right(c); why != want {
		t.Errorf("Right(%.60q): %v, want %v", call.Text(c), why, want)
	}
	if b, why := call.Encode(c); why != want || len(b) != 0 {
		t.Errorf("Encode(%.60q): %d bytes, %v, want %v", call.Text(c), len(b), why, want)
	}
}

// reads lets Decode answer this call and so many bytes.
func reads(t *testing.T, s string, want api.Call, size int) {
	t.Helper()
	if c, n, why := call.Decode([]byte(s)); why != api.OK || n != size || !same(c, want) {
		t.Errorf("Decode(%.60x): %.60q, %d, %v, want %.60q, %d", s, call.Text(c), n, why, call.Text(want), size)
	}
}

// readsNot lets Decode refuse the bytes for this reason, with nothing beside it.
func readsNot(t *testing.T, s string, want api.Errno) {
	t.Helper()
	if c, n, why := call.Decode([]byte(s)); why != want || n != 0 || !same(c, api.Call{}) {
		t.Errorf("Decode(%.60x): %.60q, %d, %v, want %v", s, call.Text(c), n, why, want)
	}
}

// The chapter's runs and examples.
func TestRunsAndExamples(t *testing.T) {
	texts(t, api.Call{Op: api.Mkdir, Path: "/a b", Mode: 5}, "mkdir /a%20b mode=5")
	shows(t, api.Result{Why: api.NoEnt}, "error 32")
	shows(t, api.Result{N: 3}, "ok n=3")
	readsNot(t, "", api.ErrEnd)
	refuses(t, api.Call{}, api.ErrArg)
}

// P16.1: Mkdir to Unbind, and none else.
func TestOps(t *testing.T) {
	for op := api.Mkdir; op <= api.Unbind; op++ {
		writes(t, api.Call{Op: op}, string(rune(op))+noughts(26))
	}
	for _, op := range []int{0, 21, 22, 255, 256, 257, 1 << 32, 1<<32 + 1, -1, -255, -256 + 1, math.MinInt, math.MaxInt} {
		refuses(t, api.Call{Op: op}, api.ErrArg)
	}
}

// P16.1: -2^31 to 2^31 - 1, for each field alone.
func TestNumbers(t *testing.T) {
	for i, f := range fields() {
		for n, want := range map[int]string{
			0:             "\x00\x00\x00\x00",
			1:             "\x00\x00\x00\x01",
			-1:            "\xff\xff\xff\xff",
			-2:            "\xff\xff\xff\xfe",
			255:           "\x00\x00\x00\xff",
			256:           "\x00\x00\x01\x00",
			-256:          "\xff\xff\xff\x00",
			0x01020304:    "\x01\x02\x03\x04",
			-0x01020304:   "\xfe\xfd\xfc\xfc",
			math.MaxInt32: "\x7f\xff\xff\xff",
			math.MinInt32: "\x80\x00\x00\x00",
		} {
			writes(t, with(api.Call{Op: api.Seek}, f, n), "\x07"+noughts(4+4*i)+want+noughts(4*(4-i)+2))
		}
		for _, n := range []int{math.MaxInt32 + 1, math.MinInt32 - 1, 1 << 32, 1<<32 - 1, -1 << 32, math.MaxInt, math.MinInt} {
			refuses(t, with(api.Call{Op: api.Seek}, f, n), api.ErrArg)
		}
	}
}

// P16.1: 5000 bytes of Path and To, 2000 of Data, with their lengths ahead of them.
func TestLengths(t *testing.T) {
	for n, length := range map[int]string{1: "\x00\x01", 255: "\x00\xff", 256: "\x01\x00", 258: "\x01\x02", 2000: "\x07\xd0"} {
		writes(t, api.Call{Op: api.Mkdir, Path: xs(n)}, "\x01"+length+xs(n)+noughts(24))
		writes(t, api.Call{Op: api.Mkdir, To: xs(n)}, "\x01"+noughts(2)+length+xs(n)+noughts(22))
		writes(t, api.Call{Op: api.Mkdir, Data: []byte(xs(n))}, "\x01"+noughts(24)+length+xs(n))
	}
	for n, length := range map[int]string{2001: "\x07\xd1", 4999: "\x13\x87", 5000: "\x13\x88"} {
		writes(t, api.Call{Op: api.Mkdir, Path: xs(n)}, "\x01"+length+xs(n)+noughts(24))
		writes(t, api.Call{Op: api.Mkdir, To: xs(n)}, "\x01"+noughts(2)+length+xs(n)+noughts(22))
		refuses(t, api.Call{Op: api.Mkdir, Data: []byte(xs(n))}, api.ErrLong)
	}
	for _, n := range []int{5001, 65535, 65536, 65537, 1 << 20} {
		refuses(t, api.Call{Op: api.Mkdir, Path: xs(n)}, api.ErrLong)
		refuses(t, api.Call{Op: api.Mkdir, To: xs(n)}, api.ErrLong)
		refuses(t, api.Call{Op: api.Mkdir, Data: []byte(xs(n))}, api.ErrLong)
	}
	all := api.Call{Op: api.Unbind, Path: xs(5000), To: xs(5000), Data: []byte(xs(2000))}
	writes(t, all, "\x14\x13\x88"+xs(5000)+"\x13\x88"+xs(5000)+noughts(20)+"\x07\xd0"+xs(2000))
}

// P16.1: the fields one behind the other, whichever the call is.
func TestEncodeOrder(t *testing.T) {
	c := api.Call{Op: api.Write, Path: "/p", To: "t", Fd: 1, Flags: 2, Mode: 3, N: 4, M: 5, Data: []byte("\x00d\xff")}
	writes(t, c, "\x06\x00\x02/p\x00\x01t\x00\x00\x00\x01\x00\x00\x00\x02\x00\x00\x00\x03\x00\x00\x00\x04\x00\x00\x00\x05\x00\x03\x00d\xff")
	c = api.Call{Op: api.Rename, Path: "\x00\xff", To: "\x80", Fd: -1, Flags: -2, Mode: -3, N: -4, M: -5, Data: []byte{}}
	writes(t, c, "\x0d\x00\x02\x00\xff\x00\x01\x80\xff\xff\xff\xff\xff\xff\xff\xfe\xff\xff\xff\xfd\xff\xff\xff\xfc\xff\xff\xff\xfb\x00\x00")
}

// P16.1: of two refusals ErrArg is told, whichever field asks for it.
func TestRightRefusesInOrder(t *testing.T) {
	for _, long := range []api.Call{{Path: xs(5001)}, {To: xs(5001)}, {Data: []byte(xs(2001))}, {Path: xs(5001), To: xs(5001), Data: []byte(xs(2001))}} {
		for _, op := range []int{0, 21, -1} {
			c := long
			c.Op = op
			refuses(t, c, api.ErrArg)
		}
		long.Op = api.Link
		refuses(t, long, api.ErrLong)
		for _, f := range fields() {
			refuses(t, with(long, f, math.MaxInt32+1), api.ErrArg)
			refuses(t, with(long, f, math.MinInt32-1), api.ErrArg)
		}
	}
}

// P16.1: ErrEnd for what is cut off, at whichever byte.
func TestDecodeOfWhatIsCutOff(t *testing.T) {
	for _, c := range []api.Call{
		{Op: api.Close},
		{Op: api.Write, Path: "/p/q", To: "to", Fd: 1, Flags: -1, Mode: 3, N: -4, M: 5, Data: []byte("data")},
		{Op: api.Rename, Path: xs(300), To: xs(256), Data: []byte(xs(258))},
		{Op: api.Unbind, Path: xs(5000), To: xs(5000), Data: []byte(xs(2000))},
	} {
		b, _ := call.Encode(c)
		for n := range b {
			readsNot(t, string(b[:n]), api.ErrEnd)
		}
		reads(t, string(b), c, len(b))
	}
}

// P16.1: what goes on behind a call is let be, be it another one.
func TestDecodeOfWhatGoesOn(t *testing.T) {
	var row []byte
	calls := []api.Call{{Op: api.Mkdir, Path: "/d", Mode: 0o755}, {Op: api.Close, Fd: 7}, {Op: api.Write, Data: []byte("abc")}, {Op: api.Unbind, To: "x"}}
	for _, c := range calls {
		b, _ := call.Encode(c)
		row = append(row, b...)
		for _, behind := range []string{"\x00", "\x01", "\xff", noughts(27), xs(5000)} {
			reads(t, string(b)+behind, c, len(b))
		}
	}
	rest := row
	for _, want := range calls {
		c, n, why := call.Decode(rest)
		if why != api.OK || !same(c, want) {
			t.Fatalf("Decode of the row at %d: %q, %v", len(row)-len(rest), call.Text(c), why)
		}
		rest = rest[n:]
	}
	if len(rest) != 0 {
		t.Errorf("Decode of the row: %d bytes are left", len(rest))
	}
}

// P16.1: bytes that are a call which Right refuses.
func TestDecodeRefusesAsRight(t *testing.T) {
	for op := range 256 {
		if op >= api.Mkdir && op <= api.Unbind {
			reads(t, string([]byte{byte(op)})+noughts(26), api.Call{Op: op}, 27)
		} else {
			readsNot(t, string([]byte{byte(op)})+noughts(26), api.ErrArg)
		}
	}
	for length, n := range map[string]int{"\x13\x89": 5001, "\xff\xff": 65535} {
		readsNot(t, "\x01"+length+xs(n)+noughts(24), api.ErrLong)
		readsNot(t, "\x01"+noughts(2)+length+xs(n)+noughts(22), api.ErrLong)
		readsNot(t, "\x01"+noughts(24)+length+xs(n), api.ErrLong)
		readsNot(t, "\x00"+length+xs(n)+noughts(24), api.ErrArg)
		readsNot(t, "\x15"+noughts(24)+length+xs(n), api.ErrArg)
	}
	readsNot(t, "\x01"+noughts(24)+"\x07\xd1"+xs(2001), api.ErrLong)
	reads(t, "\x01"+noughts(24)+"\x07\xd0"+xs(2001), api.Call{Op: 1, Data: []byte(xs(2000))}, 2027)
}

// P16.1: of what is refused and cut off, that it is cut off is told.
func TestDecodeTellsTheEndFirst(t *testing.T) {
	for _, s := range []string{"\x00", "\x15", "\xff", "\x00" + noughts(25), "\x15" + noughts(25), "\xff" + noughts(24) + "\x00\x01"} {
		readsNot(t, s, api.ErrEnd)
	}
	for _, n := range []int{0, 1, 5000, 5001} {
		readsNot(t, "\x01\x13\x89"+xs(n), api.ErrEnd)
		readsNot(t, "\x01\xff\xff"+xs(n)+noughts(24), api.ErrEnd)
		readsNot(t, "\x01\x00\x00\x13\x89"+xs(n), api.ErrEnd)
		readsNot(t, "\x00"+noughts(24)+"\xff\xff"+xs(n), api.ErrEnd)
	}
	readsNot(t, "\x01\x13\x89"+xs(5001)+noughts(23), api.ErrEnd)
	readsNot(t, "\x01"+noughts(24)+"\x07\xd1"+xs(2000), api.ErrEnd)
}

// P16.1: nothing, said in both ways.
func TestDecodeOfNothing(t *testing.T) {
	for _, b := range [][]byte{nil, {}, []byte("\x01" + noughts(26))[:0]} {
		if c, n, why := call.Decode(b); why != api.ErrEnd || n != 0 || !same(c, api.Call{}) {
			t.Errorf("Decode of nothing: %q, %d, %v", call.Text(c), n, why)
		}
	}
}

// R5: the room behind the bytes is not read.
func TestDecodeReadsNoSpareRoom(t *testing.T) {
	b, _ := call.Encode(api.Call{Op: api.Write, Path: "/p", Data: []byte("data")})
	for n := range b {
		if _, _, why := call.Decode(b[:n]); why != api.ErrEnd {
			t.Errorf("Decode of %d bytes with room behind them: %v", n, why)
		}
	}
}

// R2: neither the bytes nor the call are changed, spare room included, and no answer keeps a piece of them.
func TestMemory(t *testing.T) {
	c := api.Call{Op: api.Write, Path: "/p", To: "to", Data: []byte("data and room")[:4]}
	b, _ := call.Encode(c)
	if string(c.Data[:cap(c.Data)][:13]) != "data and room" {
		t.Errorf("Encode changed the Data, or the room behind it: %q", c.Data[:13])
	}
	c.Data[0] = 'D'
	if string(b[len(b)-4:]) != "data" {
		t.Errorf("Encode kept the Data: %q", b)
	}
	c.Data[0] = 'd'
	whole := append(slices.Clone(b), "behind"...)
	was := string(whole)
	d, _, _ := call.Decode(whole[:len(b)])
	if string(whole) != was {
		t.Errorf("Decode changed its bytes: %q", whole)
	}
	clear(whole)
	if !same(d, c) {
		t.Errorf("Decode kept a piece of its bytes: %q", call.Text(d))
	}
	whole = []byte(was)
	d, _, _ = call.Decode(whole)
	clear(d.Data[:cap(d.Data)])
	_ = append(d.Data, "more"...)
	if string(whole) != was {
		t.Errorf("Decode's Data shares memory with its bytes: %q", whole)
	}
}

// R2: each answer is of its own memory, its spare room too.
func TestAnswersAreNew(t *testing.T) {
	c := api.Call{Op: api.Write, Path: "/p", Data: []byte("data")}
	b, _ := call.Encode(c)
	d, _ := call.Encode(c)
	was := string(d)
	clear(b[:cap(b)])
	if string(d) != was {
		t.Errorf("Encode answered one memory twice: %q", d)
	}
	x, _, _ := call.Decode(d)
	y, _, _ := call.Decode(d)
	clear(x.Data[:cap(x.Data)])
	if string(y.Data) != "data" || string(d) != was {
		t.Errorf("Decode answered one memory twice: %q", y.Data)
	}
}
