package script_test

import (
	"encoding/binary"
	"math"
	"math/rand"
	"reflect"
	"slices"
	"testing"

	"warren/api"
	"warren/call"
	"warren/script"
)

// toldRight is the chapter's words of Right.
func toldRight(i api.Item) api.Errno {
	if i.Kind < 1 || i.Kind > 3 || i.Thread != int(uint8(i.Thread)) || i.N != int(uint16(i.N)) {
		return api.ErrArg
	}
	asked := api.Item{Kind: i.Kind, N: i.N}
	if i.Kind == 1 {
		asked = api.Item{Kind: i.Kind, Thread: i.Thread, Call: i.Call}
	}
	if len(i.Call.Data) == 0 {
		asked.Call.Data, i.Call.Data = nil, nil
	}
	if !reflect.DeepEqual(i, asked) {
		return api.ErrArg
	}
	if i.Kind == 1 {
		return call.Right(i.Call)
	}
	return api.OK
}

// toldEncode is the chapter's words of Encode.
func toldEncode(l []api.Item) (string, api.Errno) {
	if len(l) > 1024 {
		return "", api.ErrMany
	}
	var b []byte
	for _, i := range l {
		if why := toldRight(i); why != api.OK {
			return "", why
		}
		if i.Kind != 1 {
			b = binary.BigEndian.AppendUint16(append(b, byte(i.Kind)), uint16(i.N))
			continue
		}
		c, _ := call.Encode(i.Call)
		b = append(append(b, 1, byte(i.Thread)), c...)
	}
	return string(b), api.OK
}

// toldDecode is the chapter's words of Decode.
func toldDecode(b []byte) []api.Item {
	l := []api.Item{}
	at := 0
	take := func(kind int) bool {
		switch {
		case kind == 1 && at+2 <= len(b):
			c, n, why := call.Decode(b[at+2:])
			if why != api.OK {
				return false
			}
			l = append(l, api.Item{Kind: 1, Thread: int(b[at+1]), Call: c})
			at += 2 + n
		case kind != 1 && at+3 <= len(b):
			l = append(l, api.Item{Kind: kind, N: int(binary.BigEndian.Uint16(b[at+1:]))})
			at += 3
		default:
			return false
		}
		return true
	}
	for at < len(b) && len(l) < 1024 {
		switch kind := int(b[at]); {
		case kind < 1 || kind > 3:
			l = append(l, api.Item{})
			at++
		case !take(kind):
			return append(l, api.Item{})
		}
	}
	return l
}

// someText answers a text of one of the sizes, of any bytes.
func someText(r *rand.Rand, sizes ...int) string {
	b := make([]byte, sizes[r.Intn(len(sizes))])
	r.Read(b)
	return string(b)
}

// someCall answers one that call.Right takes, long as often as asked for.
func someCall(r *rand.Rand, long bool) api.Call {
	numbers := []int{0, 0, 0, 1, -1, 255, 65536, math.MaxInt32, math.MinInt32}
	some := func() int { return numbers[r.Intn(len(numbers))] }
	c := api.Call{Op: 1 + r.Intn(20), Path: someText(r, 0, 1, 3, 30), To: someText(r, 0, 0, 1, 9), Fd: some(), Flags: some(), Mode: some(), N: some(), M: some()}
	c.Data = []byte(someText(r, 0, 0, 1, 8))
	if long {
		c.Path, c.To, c.Data = someText(r, 0, 256, 5000), someText(r, 0, 256, 5000), []byte(someText(r, 0, 256, 2000))
	}
	return c
}

// someItem answers one that Right takes.
func someItem(r *rand.Rand) api.Item {
	switch r.Intn(3) {
	case 0:
		return stepped([]int{0, 1, 255, 256, 65535, r.Intn(65536)}[r.Intn(6)])
	case 1:
		return shrunk(r.Intn(65536))
	}
	return started(r.Intn(256), someCall(r, r.Intn(20) == 0))
}

// someList answers one of so many items that Right takes.
func someList(r *rand.Rand, size int) []api.Item {
	l := make([]api.Item, size)
	for k := range l {
		l[k] = someItem(r)
	}
	return l
}

// spoilt answers the item with something that Right may refuse.
func spoilt(r *rand.Rand, i api.Item) api.Item {
	numbers := []int{0, 0, 1, -1, 3, 4, 255, 256, 65535, 65536, 1 << 32, math.MinInt, math.MaxInt}
	n := numbers[r.Intn(len(numbers))]
	switch r.Intn(6) {
	case 0:
		i.Kind = n
	case 1:
		i.Thread = n
	case 2:
		i.N = n
	case 3:
		one := single()
		i.Call = one[r.Intn(len(one))]
	case 4:
		i.Call.Path = xs(5001)
	case 5:
		i.Kind = 1 + r.Intn(3)
	}
	return i
}

// P17.1, P17.3: lists of every kind of item come back from their bytes.
func TestDecodeOfEncode(t *testing.T) {
	r := rand.New(rand.NewSource(17))
	for _, size := range []int{0, 1, 1, 1, 2, 3, 10, 100, 1023, 1024} {
		for range 20 {
			l := someList(r, size)
			want, _ := toldEncode(l)
			encodes(t, l, want)
			decodes(t, want, l...)
		}
	}
}

// P17.3: each Op, and each kind of item beside each other kind.
func TestDecodeOfEncodeOfEveryPair(t *testing.T) {
	r := rand.New(rand.NewSource(18))
	all := []api.Item{stepped(0), stepped(65535), shrunk(0), shrunk(258)}
	for op := api.Mkdir; op <= api.Unbind; op++ {
		c := someCall(r, false)
		c.Op = op
		all = append(all, started(op, c), started(255-op, api.Call{Op: op}))
	}
	for _, i := range all {
		for _, k := range all {
			b, why := script.Encode([]api.Item{i, k})
			if why != api.OK {
				t.Fatalf("Encode(%s, %s): %v", show(i), show(k), why)
			}
			decodes(t, string(b), i, k)
		}
	}
}

// P17.1: Right and Encode by the chapter's words, of items that are spoilt and not.
func TestRightOfManyItems(t *testing.T) {
	r := rand.New(rand.NewSource(19))
	refused := map[api.Errno]int{}
	for range 20000 {
		i := spoilt(r, someItem(r))
		want := toldRight(i)
		refused[want]++
		if got := script.Right(i); got != want {
			t.Fatalf("Right(%s): %v, want %v", show(i), got, want)
		}
	}
	for range 1500 {
		l := someList(r, []int{1, 2, 9, 1024, 1025}[r.Intn(5)])
		for range r.Intn(3) {
			k := r.Intn(len(l))
			l[k] = spoilt(r, l[k])
		}
		b, why := script.Encode(l)
		want, wantWhy := toldEncode(l)
		refused[wantWhy]++
		if string(b) != want || why != wantWhy {
			t.Fatalf("Encode of %d items: %d bytes, %v, want %d, %v", len(l), len(b), why, len(want), wantWhy)
		}
	}
	for _, why := range []api.Errno{api.OK, api.ErrArg, api.ErrLong, api.ErrMany} {
		if refused[why] == 0 {
			t.Errorf("the items never made Encode answer %v", why)
		}
	}
}

// holds lets Decode answer what the chapter's words say, and Encode just the bytes again if all of them are items.
func holds(t *testing.T, b []byte) []api.Item {
	t.Helper()
	l := script.Decode(b)
	if want := toldDecode(b); !slices.EqualFunc(l, want, same) {
		t.Fatalf("Decode(%.80x): %d items %s, want %d %s", b, len(l), shows(l), len(want), shows(want))
	}
	fine := len(l) < api.MaxScript
	for _, i := range l {
		if why := script.Right(i); (why == api.OK) != (i.Kind != 0) {
			t.Fatalf("Decode(%.80x): an item that is not right: %s, %v", b, show(i), why)
		}
		fine = fine && i.Kind != 0
	}
	if again, why := script.Encode(l); fine && (why != api.OK || string(again) != string(b)) {
		t.Fatalf("Encode of Decode(%.80x): %.80x, %v", b, again, why)
	}
	return l
}

// P17.2, P17.3: bytes of any kind, of which many are nearly a script.
func TestDecodeOfManyBytes(t *testing.T) {
	r := rand.New(rand.NewSource(20))
	kinds := map[int]int{}
	for range 20000 {
		b := []byte(someText(r, 0, 1, 3, 29, 60, 200))
		for k := range b {
			if r.Intn(8) > 0 {
				b[k] = byte(r.Intn(4)) * byte(r.Intn(2))
			}
		}
		for _, i := range holds(t, b) {
			kinds[i.Kind]++
		}
	}
	for range 3000 {
		b, _ := script.Encode(someList(r, 1+r.Intn(30)))
		for range r.Intn(4) {
			b[r.Intn(len(b))] = byte(r.Intn(22))
		}
		for _, i := range holds(t, b[:len(b)-r.Intn(2)*r.Intn(len(b))]) {
			kinds[i.Kind]++
		}
	}
	if len(kinds) != 4 {
		t.Errorf("the bytes were not of every kind: %v", kinds)
	}
}

// P17.2: all short rows of a few bytes, with and without what makes a call of them.
func TestDecodeOfShortRows(t *testing.T) {
	few := []byte{0, 1, 2, 3, 4, 20, 255}
	var rows func(b []byte)
	rows = func(b []byte) {
		holds(t, b)
		holds(t, append(b[:len(b):len(b)], noughts(25)...))
		holds(t, append(b[:len(b):len(b)], noughts(26)...))
		if len(b) < 5 {
			for _, x := range few {
				rows(append(b[:len(b):len(b)], x))
			}
		}
	}
	rows(nil)
}

// P17.2: what is behind 1024 items changes nothing.
func TestWhatIsBehindManyItems(t *testing.T) {
	r := rand.New(rand.NewSource(21))
	for range 40 {
		l := someList(r, 1024)
		b, _ := script.Encode(l)
		decodes(t, string(b)+someText(r, 1, 2, 30, 5000), l...)
		holds(t, append(b[:len(b):len(b)], someText(r, 1, 9)...))
	}
}

// R4: what is asked twice is answered alike.
func TestAnswersHangOnWhatIsGiven(t *testing.T) {
	r := rand.New(rand.NewSource(22))
	for range 300 {
		l := someList(r, r.Intn(20))
		if len(l) > 0 && r.Intn(2) == 0 {
			l[len(l)-1] = spoilt(r, l[len(l)-1])
		}
		b, why := script.Encode(l)
		again, whyAgain := script.Encode(l)
		if string(b) != string(again) || why != whyAgain {
			t.Fatalf("Encode asked twice: %s", shows(l))
		}
		if !slices.EqualFunc(script.Decode(b), script.Decode(b), same) {
			t.Fatalf("Decode asked twice: %.80x", b)
		}
	}
}
