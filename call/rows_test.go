package call_test

import (
	"encoding/binary"
	"fmt"
	"math"
	"math/rand"
	"strings"
	"testing"

	"warren/api"
	"warren/call"
)

// told is the chapter's words of Encode, for a call that Right takes.
func told(c api.Call) string {
	b := []byte{byte(c.Op)}
	b = binary.BigEndian.AppendUint16(b, uint16(len(c.Path)))
	b = append(b, c.Path...)
	b = binary.BigEndian.AppendUint16(b, uint16(len(c.To)))
	b = append(b, c.To...)
	for _, n := range []int{c.Fd, c.Flags, c.Mode, c.N, c.M} {
		if n < 0 {
			n += 1 << 32
		}
		b = binary.BigEndian.AppendUint32(b, uint32(n))
	}
	b = binary.BigEndian.AppendUint16(b, uint16(len(c.Data)))
	return string(append(b, c.Data...))
}

// toldRight is the chapter's words of Right.
func toldRight(c api.Call) api.Errno {
	if c.Op <= 0 || c.Op >= 21 {
		return api.ErrArg
	}
	for _, n := range []int{c.Fd, c.Flags, c.Mode, c.N, c.M} {
		if n != int(int32(n)) {
			return api.ErrArg
		}
	}
	if max(len(c.Path), len(c.To)) > 5000 || len(c.Data) > 2000 {
		return api.ErrLong
	}
	return api.OK
}

// toldDecode is the chapter's words of Decode: where the call ends is worked out ahead of reading it.
func toldDecode(b []byte) (api.Call, int, api.Errno) {
	size := func(at int) int {
		if at+2 > len(b) {
			return len(b)
		}
		return int(b[at])<<8 + int(b[at+1])
	}
	to := 3 + size(1)
	numbers := to + 2 + size(to)
	data := numbers + 20
	end := data + 2 + size(data)
	if end > len(b) {
		return api.Call{}, 0, api.ErrEnd
	}
	var n [5]int
	for i := range n {
		n[i] = int(binary.BigEndian.Uint32(b[numbers+4*i:]))
		if n[i] >= 1<<31 {
			n[i] -= 1 << 32
		}
	}
	c := api.Call{Op: int(b[0]), Path: string(b[3:to]), To: string(b[to+2 : numbers]), Fd: n[0], Flags: n[1], Mode: n[2], N: n[3], M: n[4], Data: b[data+2 : end]}
	if why := toldRight(c); why != api.OK {
		return api.Call{}, 0, why
	}
	return c, end, api.OK
}

// toldBytes is the chapter's words of how Path is written.
func toldBytes(s string) string {
	out := ""
	for i := range len(s) {
		if s[i] < 33 || s[i] > 126 || s[i] == '%' {
			out += fmt.Sprintf("%%%02x", s[i])
		} else {
			out += s[i : i+1]
		}
	}
	return out
}

// toldNumbers appends those of the numbers that are not 0, each with its word.
func toldNumbers(out []string, words string, numbers ...int) []string {
	for i, w := range strings.Fields(words) {
		if numbers[i] != 0 {
			out = append(out, fmt.Sprint(w, "=", numbers[i]))
		}
	}
	return out
}

// toldText is the chapter's words of Text.
func toldText(c api.Call) string {
	out := []string{"none"}
	words := strings.Fields("mkdir rmdir open close read write seek truncate link unlink symlink readlink rename info chmod chown chdir list bind unbind")
	if c.Op >= 1 && c.Op <= 20 {
		out[0] = words[c.Op-1]
	}
	for _, s := range []string{c.Path, c.To} {
		if s != "" {
			out = append(out, toldBytes(s))
		}
	}
	out = toldNumbers(out, "fd flags mode n m", c.Fd, c.Flags, c.Mode, c.N, c.M)
	if len(c.Data) > 0 {
		out = append(out, "data="+toldBytes(string(c.Data)))
	}
	return strings.Join(out, " ")
}

// toldShow is the chapter's words of Show.
func toldShow(r api.Result) string {
	out := []string{"ok"}
	if r.Why != 0 {
		out = []string{"error", fmt.Sprint(int(r.Why))}
	}
	out = toldNumbers(out, "n", r.N)
	if len(r.Data) > 0 {
		out = append(out, "data="+toldBytes(string(r.Data)))
	}
	if len(r.Names) > 0 {
		var names []string
		for _, s := range r.Names {
			names = append(names, toldBytes(s))
		}
		out = append(out, "names="+strings.Join(names, ","))
	}
	s := r.Stat
	out = toldNumbers(out, "node kind mode uid gid links size", s.Node, s.Kind, s.Mode, s.Uid, s.Gid, s.Links, s.Size)
	return strings.Join(out, " ")
}

// someText answers a text of one of the sizes, of any bytes.
func someText(r *rand.Rand, sizes ...int) string {
	b := make([]byte, sizes[r.Intn(len(sizes))])
	r.Read(b)
	return string(b)
}

// someNumber answers one of those at the edges, or any; beyond says whether it may be one that Right refuses.
func someNumber(r *rand.Rand, beyond bool) int {
	edges := []int{0, 0, 1, -1, 255, 256, math.MaxInt32, math.MinInt32, int(int32(r.Uint32()))}
	if beyond {
		edges = append(edges, math.MaxInt32+1, math.MinInt32-1, math.MaxInt, math.MinInt, int(r.Uint64()))
	}
	return edges[r.Intn(len(edges))]
}

// someCall answers one of this Op that Right takes.
func someCall(r *rand.Rand, op int) api.Call {
	return api.Call{
		Op: op, Path: someText(r, 0, 1, 2, 9, 255, 256, 5000), To: someText(r, 0, 1, 3, 300, 4999, 5000),
		Fd: someNumber(r, false), Flags: someNumber(r, false), Mode: someNumber(r, false), N: someNumber(r, false), M: someNumber(r, false),
		Data: []byte(someText(r, 0, 1, 5, 256, 2000)),
	}
}

// spoilt answers the call with some fields beyond what Right takes.
func spoilt(r *rand.Rand, c api.Call) api.Call {
	for _, f := range fields() {
		if r.Intn(4) == 0 {
			c = with(c, f, someNumber(r, true))
		}
	}
	switch r.Intn(5) {
	case 0:
		c.Op = r.Intn(60) - 20
	case 1:
		c.Path = someText(r, 5000, 5001, 6000)
	case 2:
		c.To = someText(r, 5000, 5001, 70000)
	case 3:
		c.Data = []byte(someText(r, 2000, 2001, 9000))
	}
	return c
}

// P16.1, P16.3: calls of every kind come back from their bytes, whatever is behind these.
func TestDecodeOfEncode(t *testing.T) {
	r := rand.New(rand.NewSource(16))
	for op := api.Mkdir; op <= api.Unbind; op++ {
		for range 100 {
			c := someCall(r, op)
			writes(t, c, told(c))
			reads(t, told(c)+someText(r, 1, 2, 30), c, len(told(c)))
		}
	}
}

// P16.1: Right, and Encode with it, by the chapter's words.
func TestRightOfManyCalls(t *testing.T) {
	r := rand.New(rand.NewSource(17))
	refused := map[api.Errno]int{}
	for range 5000 {
		c := spoilt(r, someCall(r, 1+r.Intn(20)))
		want := toldRight(c)
		refused[want]++
		if want != api.OK {
			refuses(t, c, want)
		} else {
			writes(t, c, told(c))
		}
	}
	if len(refused) != 3 {
		t.Errorf("the calls were not of every kind: %v", refused)
	}
}

// decodes holds Decode against the chapter's words, and Encode of what it answers against the bytes.
func decodes(t *testing.T, b []byte) api.Errno {
	t.Helper()
	c, n, why := call.Decode(b)
	d, m, want := toldDecode(b)
	if why != want || n != m || !same(c, d) {
		t.Fatalf("Decode(%.60x): %.60q, %d, %v, want %.60q, %d, %v", b, call.Text(c), n, why, call.Text(d), m, want)
	}
	if why == api.OK {
		if again, _ := call.Encode(c); string(again) != string(b[:n]) {
			t.Fatalf("Encode of Decode(%.60x): %.60x", b, again)
		}
	}
	return why
}

// P16.1, P16.3: bytes of any kind, of which many are nearly a call.
func TestDecodeOfManyBytes(t *testing.T) {
	r := rand.New(rand.NewSource(18))
	seen := map[api.Errno]int{}
	for range 20000 {
		b := []byte(someText(r, 0, 1, 26, 27, 28, 40, 60))
		for i := range b {
			if r.Intn(3) > 0 {
				b[i] = byte(r.Intn(3))
			}
		}
		seen[decodes(t, b)]++
	}
	for range 2000 {
		b := []byte(told(spoilt(r, someCall(r, 1+r.Intn(20)))))
		for range r.Intn(4) {
			b[r.Intn(min(len(b), 8))] = byte(r.Intn(22))
		}
		seen[decodes(t, b[:len(b)-r.Intn(2)*r.Intn(len(b))])]++
	}
	for _, why := range []api.Errno{api.OK, api.ErrEnd, api.ErrArg, api.ErrLong} {
		if seen[why] == 0 {
			t.Errorf("the bytes never made Decode answer %v", why)
		}
	}
}

// P16.1: all short rows of a few bytes, up to those that could be a call's beginning.
func TestDecodeOfShortRows(t *testing.T) {
	few := []byte{0, 1, 2, 20, 21, 255}
	var rows func(b []byte)
	rows = func(b []byte) {
		decodes(t, b)
		decodes(t, append(append([]byte{}, b...), noughts(27)...))
		if len(b) < 5 {
			for _, x := range few {
				rows(append(b[:len(b):len(b)], x))
			}
		}
	}
	rows(nil)
}

// P16.2: lines by the chapter's words, also of calls that Right refuses.
func TestLinesOfMany(t *testing.T) {
	r := rand.New(rand.NewSource(19))
	for range 3000 {
		c := api.Call{Op: r.Intn(24) - 1, Path: someText(r, 0, 0, 1, 9), To: someText(r, 0, 0, 1, 9), Data: []byte(someText(r, 0, 0, 1, 9))}
		for _, f := range fields() {
			c = with(c, f, someNumber(r, true))
		}
		texts(t, c, toldText(c))
		x := api.Result{Why: api.Errno(someNumber(r, true)), N: someNumber(r, true), Data: []byte(someText(r, 0, 0, 1, 9))}
		for range r.Intn(4) {
			x.Names = append(x.Names, someText(r, 0, 1, 9))
		}
		s := &x.Stat
		for _, n := range []*int{&s.Node, &s.Kind, &s.Mode, &s.Uid, &s.Gid, &s.Links, &s.Size} {
			*n = someNumber(r, true)
		}
		shows(t, x, toldShow(x))
	}
}

// R4: what is asked twice is answered alike, and nil lists as empty ones.
func TestAnswersHangOnWhatIsGiven(t *testing.T) {
	r := rand.New(rand.NewSource(20))
	for range 300 {
		c := spoilt(r, someCall(r, 1+r.Intn(20)))
		b, why := call.Encode(c)
		again, whyAgain := call.Encode(c)
		if string(b) != string(again) || why != whyAgain || call.Text(c) != call.Text(c) {
			t.Fatalf("asked twice: %.60q", call.Text(c))
		}
	}
	b, why := call.Encode(api.Call{Op: 1})
	d, whyEmpty := call.Encode(api.Call{Op: 1, Data: []byte{}})
	if string(b) != string(d) || why != whyEmpty {
		t.Errorf("Encode with nil and empty Data: %x, %x", b, d)
	}
}
