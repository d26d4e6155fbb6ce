package script_test

import (
	"slices"
	"testing"

	"warren/api"
	"warren/script"
)

// written answers a Start with Data, and its bytes.
func written() (api.Item, []byte) {
	i := started(1, api.Call{Op: api.Write, Path: "/p", To: "to", Data: []byte("data")})
	b, _ := script.Encode([]api.Item{i})
	return i, b
}

// R2: Encode and Right change nothing of the list nor of the Data in it, the room behind them included.
func TestEncodeChangesNothing(t *testing.T) {
	room := []byte("data and room")
	l := []api.Item{stepped(1), started(1, api.Call{Op: api.Write, Path: "/p", Data: room[:4]}), shrunk(2), {Kind: 7, Thread: -1}}
	was := slices.Clone(l)
	for n := range len(l) + 1 {
		_, _ = script.Encode(l[:n])
	}
	for _, i := range l {
		_ = script.Right(i)
	}
	if !slices.EqualFunc(l, was, same) || string(room) != "data and room" {
		t.Errorf("Encode changed its list: %s, %q", shows(l), room)
	}
}

// R2: the bytes are not the list's any more when they are answered.
func TestEncodeKeepsNothing(t *testing.T) {
	i, b := written()
	was := string(b)
	clear(i.Call.Data)
	if string(b) != was {
		t.Errorf("Encode kept the Data: %q", b)
	}
	i, b = written()
	clear(b[:cap(b)])
	if string(i.Call.Data) != "data" {
		t.Errorf("Encode's bytes share memory with the Data: %q", i.Call.Data)
	}
	l := []api.Item{i, stepped(3)}
	b, _ = script.Encode(l)
	again, _ := script.Encode(l)
	want := string(again)
	clear(b[:cap(b)])
	if string(again) != want {
		t.Errorf("Encode answered one memory twice: %q", again)
	}
}

// R2: Decode changes no byte, and the items are not the bytes' any more when they are answered.
func TestDecodeKeepsNothing(t *testing.T) {
	i, b := written()
	for _, cut := range []int{0, 1, 9, len(b) - 1, len(b)} {
		whole := append(slices.Clone(b), "\x09\x02\x00 behind"...)
		was := string(whole)
		l := script.Decode(whole[:cut])
		if string(whole) != was {
			t.Errorf("Decode changed its bytes: %q", whole)
		}
		clear(whole)
		if cut == len(b) && (len(l) != 1 || !same(l[0], i)) {
			t.Errorf("Decode kept a piece of its bytes: %s", shows(l))
		}
	}
	was := string(b)
	l := script.Decode(b)
	clear(l[0].Call.Data[:cap(l[0].Call.Data)])
	if string(b) != was {
		t.Errorf("Decode's Data shares memory with its bytes: %q", b)
	}
}

// R2: no two lists of one answer share memory, nor those of two answers, spare room included.
func TestAnswersAreNew(t *testing.T) {
	i, b := written()
	three := slices.Concat(b, b, b)
	l, again := script.Decode(three), script.Decode(three)
	data := l[1].Call.Data
	clear(data[:cap(data)])
	_ = append(data, "more and more of it"...)
	for k, other := range append([]api.Item{l[0], l[2]}, again...) {
		if !same(other, i) {
			t.Errorf("Data of %d shares memory with another: %s", k, show(other))
		}
	}
	clear(l[:cap(l)])
	if len(again) != 3 || !same(again[1], i) {
		t.Errorf("Decode answered one memory twice: %s", shows(again))
	}
	empty := script.Decode([]byte("\x02\x00\x01"))
	_ = append(empty, stepped(9))
	if l := script.Decode([]byte("\x02\x00\x01\x02\x00\x02")); len(l) != 2 || !same(l[1], stepped(2)) {
		t.Errorf("Decode answers room that was answered once: %s", shows(l))
	}
}
