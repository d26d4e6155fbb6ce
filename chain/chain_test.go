package chain_test

import (
	"hash/fnv"
	"math"
	"math/rand"
	"slices"
	"strconv"
	"strings"
	"testing"

	"warren/api"
	"warren/chain"
)

// hashed is the hash of P5.1 as another hand wrote it.
func hashed(s string) uint32 {
	h := fnv.New32a()
	h.Write([]byte(s))
	return h.Sum32()
}

func made(t *testing.T, buckets int) *chain.Table {
	t.Helper()
	x, why := chain.New(buckets)
	if x == nil || why != api.OK {
		t.Fatalf("New(%d): %v, %v", buckets, x, why)
	}
	return x
}

// row makes a table of one chain, whose keys lie as they are told, the front first; their numbers rise from 1 on in that order.
func row(t *testing.T, keys string) *chain.Table {
	t.Helper()
	x := made(t, 1)
	for i := len(keys) - 1; i >= 0; i-- {
		put(t, x, keys[i:i+1], int64(i+1))
	}
	return x
}

func put(t *testing.T, x *chain.Table, key string, v int64) {
	t.Helper()
	if why := x.Put(key, v); why != api.OK {
		t.Fatalf("Put(%q, %d): %v", key, v, why)
	}
}

func drop(t *testing.T, x *chain.Table, key string, v int64) {
	t.Helper()
	if got, why := x.Drop(key); got != v || why != api.OK {
		t.Fatalf("Drop(%q): %d, %v, want %d", key, got, why, v)
	}
}

// holds asks the table for all that it tells: keys in order of bytes, and the number of each.
func holds(t *testing.T, x *chain.Table, keys []string, numbers ...int64) {
	t.Helper()
	if x.Len() != len(keys) || !slices.Equal(x.Keys(), keys) {
		t.Errorf("%d keys: %q, want %q", x.Len(), x.Keys(), keys)
	}
	for i, k := range keys {
		if v, ok := x.Get(k); v != numbers[i] || !ok {
			t.Errorf("Get(%q): %d, %v, want %d", k, v, ok, numbers[i])
		}
	}
}

func lacks(t *testing.T, x *chain.Table, keys ...string) {
	t.Helper()
	for _, k := range keys {
		if v, ok := x.Get(k); v != 0 || ok {
			t.Errorf("Get(%q): %d, %v", k, v, ok)
		}
	}
}

// goes lets the look take so many Steps, behind none of which it may be over.
func goes(t *testing.T, l *chain.Look, steps int) {
	t.Helper()
	for range steps {
		if l.Step() {
			t.Fatalf("over behind %d Steps", l.Steps())
		}
		if v, ok := l.Found(); v != 0 || ok {
			t.Fatalf("Found ahead of the end: %d, %v", v, ok)
		}
	}
}

// toEnd lets the look go to its end, ahead of which it may have found nothing.
func toEnd(t *testing.T, l *chain.Look) {
	t.Helper()
	for begun := l.Steps(); !l.Step(); {
		if v, ok := l.Found(); v != 0 || ok {
			t.Fatalf("Found ahead of the end: %d, %v", v, ok)
		}
		if l.Steps()-begun > 1<<16 {
			t.Fatal("a look without an end")
		}
	}
}

// ends lets the look go to its end, and holds what it found against what it must, and how many Steps it took in all.
func ends(t *testing.T, l *chain.Look, v int64, ok bool, steps int) {
	t.Helper()
	toEnd(t, l)
	if got, found := l.Found(); got != v || found != ok {
		t.Errorf("found %d, %v, want %d, %v", got, found, v, ok)
	}
	if l.Steps() != steps {
		t.Errorf("%d Steps, want %d", l.Steps(), steps)
	}
}

// P5.1: Hash, as the chapter's runs and others tell it.
func TestHash(t *testing.T) {
	for s, want := range map[string]uint32{
		"":                        2166136261,
		"a":                       3826002220,
		"foobar":                  0xbf9cf968,
		"\x00":                    84696351,
		"\x00\x00":                2166136261 * 16777619 % (1 << 32) * 16777619 % (1 << 32),
		"ab":                      1294271946,
		"ba":                      1009493708,
		"\xff":                    (2166136261 ^ 255) * 16777619 % (1 << 32),
		"\x80":                    (2166136261 ^ 128) * 16777619 % (1 << 32),
		"é":                       hashed("\xc3\xa9"),
		"\xff\xfe\x00\x80":        hashed("\xff\xfe\x00\x80"),
		strings.Repeat("a", 1000): hashed(strings.Repeat("a", 1000)),
	} {
		if got := chain.Hash(s); got != want {
			t.Errorf("Hash(%q): %d, want %d", s, got, want)
		}
	}
}

// P5.1: Hash of every text of one byte, and of texts of all lengths.
func TestHashOfAllBytes(t *testing.T) {
	r := rand.New(rand.NewSource(5))
	var texts []string
	for b := range 256 {
		texts = append(texts, string([]byte{byte(b)}))
	}
	for n := range 600 {
		text := make([]byte, n)
		r.Read(text)
		texts = append(texts, string(text))
	}
	texts = append(texts, strings.Repeat("warren\xf0", 1<<16))
	for _, s := range texts {
		if got := chain.Hash(s); got != hashed(s) || chain.Hash(s) != got {
			t.Fatalf("Hash(%q): %d, want %d", s, got, hashed(s))
		}
	}
}

// P5.1: how many chains there may be; a new table has no keys.
func TestNewTakesOneTo64(t *testing.T) {
	for n := 1; n <= 64; n++ {
		x := made(t, n)
		holds(t, x, nil)
		lacks(t, x, "", "a")
	}
	for _, n := range []int{0, -1, -2, -64, 65, 66, 128, 1 << 31, 1 << 32, 1<<32 + 1, math.MaxInt, math.MinInt, math.MinInt + 1} {
		if x, why := chain.New(n); x != nil || why != api.ErrArg {
			t.Errorf("New(%d): %v, %v", n, x, why)
		}
	}
}

// P5.1: Put, Get, Len and Keys, and Drop, with one chain, with several, and with more than there are keys; the empty key is one as all others.
func TestPutGetDrop(t *testing.T) {
	for buckets := 1; buckets <= 64; buckets++ {
		x := made(t, buckets)
		put(t, x, "b", 2)
		put(t, x, "a", 1)
		put(t, x, "", math.MinInt64)
		put(t, x, "ab", math.MaxInt64)
		put(t, x, "c", 0)
		holds(t, x, []string{"", "a", "ab", "b", "c"}, math.MinInt64, 1, math.MaxInt64, 2, 0)
		lacks(t, x, "aa", "\x00", "A", "abc", "d")
		drop(t, x, "a", 1)
		drop(t, x, "c", 0)
		holds(t, x, []string{"", "ab", "b"}, math.MinInt64, math.MaxInt64, 2)
		lacks(t, x, "a", "c")
		put(t, x, "a", -1)
		drop(t, x, "", math.MinInt64)
		holds(t, x, []string{"a", "ab", "b"}, -1, math.MaxInt64, 2)
		lacks(t, x, "", "c")
		drop(t, x, "b", 2)
		drop(t, x, "ab", math.MaxInt64)
		drop(t, x, "a", -1)
		holds(t, x, nil)
		lacks(t, x, "", "a", "ab", "b", "c")
	}
}

// P5.1, example 1: a key that is there is not Put again, whatever the number, and keeps its own.
func TestPutTwice(t *testing.T) {
	for _, key := range []string{"", "a", "key", "\xff\x00", strings.Repeat("k", 5000)} {
		x := made(t, 3)
		put(t, x, key, 5)
		for _, v := range []int64{5, 6, 0, -1} {
			if why := x.Put(key, v); why != api.ErrBusy {
				t.Errorf("Put(%q, %d) twice: %v", key, v, why)
			}
			holds(t, x, []string{key}, 5)
		}
		drop(t, x, key, 5)
		put(t, x, key, 6)
		holds(t, x, []string{key}, 6)
	}
}

// P5.1, example 2: what is not there is not Dropped: never Put, Dropped already, or a key of the same chain.
func TestDropOfNone(t *testing.T) {
	x := made(t, 1)
	gone := func(keys ...string) {
		t.Helper()
		for _, k := range keys {
			if v, why := x.Drop(k); v != 0 || why != api.ErrGone {
				t.Errorf("Drop(%q): %d, %v", k, v, why)
			}
		}
	}
	gone("", "a", "b")
	put(t, x, "a", 1)
	gone("", "b", "aa", "A")
	holds(t, x, []string{"a"}, 1)
	drop(t, x, "a", 1)
	gone("a", "a")
	put(t, x, "b", 2)
	put(t, x, "a", 3)
	drop(t, x, "a", 3)
	gone("a")
	holds(t, x, []string{"b"}, 2)
}

// P5.1: of one chain the key at the front, in the middle and at the end is Dropped, and Put again.
func TestDropAtEachEndOfAChain(t *testing.T) {
	for i, key := range []string{"a", "b", "c"} {
		x := row(t, "abc")
		drop(t, x, key, int64(i+1))
		left := slices.Delete([]string{"a", "b", "c"}, i, i+1)
		holds(t, x, left, slices.Delete([]int64{1, 2, 3}, i, i+1)...)
		lacks(t, x, key)
		put(t, x, key, 9)
		want := []int64{1, 2, 3}
		want[i] = 9
		holds(t, x, []string{"a", "b", "c"}, want...)
	}
}

// P5.1: MaxSlots keys are there at most, in however many chains; one that is there is refused for that first; one that is Dropped makes room for one.
func TestMaxSlotsKeys(t *testing.T) {
	for _, buckets := range []int{1, 2, 7, 63, 64} {
		x := made(t, buckets)
		var keys []string
		for n := range api.MaxSlots {
			if x.Len() != n {
				t.Fatalf("%d keys, want %d", x.Len(), n)
			}
			put(t, x, strconv.Itoa(n), int64(n))
			keys = append(keys, strconv.Itoa(n))
		}
		slices.Sort(keys)
		for _, k := range []string{"", "x", "64", "-1"} {
			if why := x.Put(k, 1); why != api.ErrFull {
				t.Errorf("%d chains: Put(%q) into a full table: %v", buckets, k, why)
			}
			lacks(t, x, k)
		}
		for n := range api.MaxSlots {
			k := strconv.Itoa(n)
			if why := x.Put(k, 99); why != api.ErrBusy {
				t.Errorf("%d chains: Put(%q) into a full table: %v", buckets, k, why)
			}
			if v, ok := x.Get(k); v != int64(n) || !ok {
				t.Errorf("%d chains: Get(%q): %d, %v", buckets, k, v, ok)
			}
		}
		if !slices.Equal(x.Keys(), keys) || x.Len() != api.MaxSlots {
			t.Errorf("%d chains: %q", buckets, x.Keys())
		}
		if v, why := x.Drop("x"); v != 0 || why != api.ErrGone {
			t.Errorf("Drop(x): %d, %v", v, why)
		}
		drop(t, x, "17", 17)
		put(t, x, "x", 1)
		if why := x.Put("17", 1); why != api.ErrFull {
			t.Errorf("%d chains: full again: %v", buckets, why)
		}
	}
}

// P5.1: Keys goes by bytes, not by chains, nor by the order of Put, nor by letters.
func TestKeysByBytes(t *testing.T) {
	want := []string{"", "\x00", "\x00\x00", "\x01", "10", "9", "A", "B", "Z", "a", "a\x00", "aB", "aa", "b", "\x7f", "\x80", "\xc3\xa9", "é!", "\xff", "\xff\xff"}
	r := rand.New(rand.NewSource(6))
	for buckets := 1; buckets <= 64; buckets++ {
		x := made(t, buckets)
		for _, i := range r.Perm(len(want)) {
			put(t, x, want[i], int64(i))
		}
		numbers := make([]int64, len(want))
		for i := range numbers {
			numbers[i] = int64(i)
		}
		holds(t, x, want, numbers...)
	}
}

// P5.1: two tables, and two keys of one hash's chain, have nothing to do with each other.
func TestTablesApart(t *testing.T) {
	x, y := made(t, 1), made(t, 1)
	put(t, x, "a", 1)
	l := y.Look("a")
	holds(t, y, nil)
	put(t, y, "b", 2)
	drop(t, x, "a", 1)
	holds(t, x, nil)
	holds(t, y, []string{"b"}, 2)
	ends(t, l, 0, false, 2)
}

// P5.1, P5.2: a key is in the chain Hash modulo buckets, and a look goes along that chain alone: no key of another one makes its way longer.
func TestLooksGoAlongOneChain(t *testing.T) {
	for buckets := 1; buckets <= 64; buckets++ {
		x := made(t, buckets)
		chains := make([][]string, buckets)
		for n := range api.MaxSlots {
			key := "k" + strconv.Itoa(n*n)
			put(t, x, key, int64(n))
			at := hashed(key) % uint32(buckets)
			chains[at] = slices.Insert(chains[at], 0, key)
		}
		for _, keys := range chains {
			for i, key := range keys {
				v, _ := x.Get(key)
				ends(t, x.Look(key), v, true, i+1)
			}
		}
		for n := range 100 {
			key := "none" + strconv.Itoa(n)
			ends(t, x.Look(key), 0, false, len(chains[hashed(key)%uint32(buckets)])+1)
		}
	}
}

// P5.2, P5.3: looks that nobody disturbs: at the front, in the middle, at the end, at none; they find what Get answers.
func TestLookUndisturbed(t *testing.T) {
	x := row(t, "abc")
	for i, key := range []string{"a", "b", "c"} {
		goes(t, x.Look(key), i)
		ends(t, x.Look(key), int64(i+1), true, i+1)
	}
	ends(t, x.Look("d"), 0, false, 4)
	ends(t, x.Look(""), 0, false, 4)
	ends(t, made(t, 1).Look(""), 0, false, 1)
	ends(t, made(t, 64).Look("a"), 0, false, 1)
	zero := made(t, 5)
	put(t, zero, "", 0)
	ends(t, zero.Look(""), 0, true, 1)
}

// P5.2: Found ahead of the end is 0 and false, ahead of the first Step too; Steps counts those that were done.
func TestFoundAheadOfTheEnd(t *testing.T) {
	x := row(t, "abcd")
	l := x.Look("d")
	for n := range 3 {
		if v, ok := l.Found(); v != 0 || ok || l.Steps() != n {
			t.Errorf("behind %d Steps: %d, %v; %d", n, v, ok, l.Steps())
		}
		if l.Step() {
			t.Errorf("over behind %d Steps", n+1)
		}
	}
	if !l.Step() || l.Steps() != 4 {
		t.Errorf("not over behind %d Steps", l.Steps())
	}
	if v, ok := l.Found(); v != 4 || !ok {
		t.Errorf("found %d, %v", v, ok)
	}
}

// P5.2: behind the end Steps answer true and do nothing, whatever becomes of the table.
func TestStepBehindTheEnd(t *testing.T) {
	x := row(t, "abc")
	hit, none := x.Look("b"), x.Look("d")
	ends(t, hit, 2, true, 2)
	ends(t, none, 0, false, 4)
	same := func() {
		t.Helper()
		for range 3 {
			ends(t, hit, 2, true, 2)
			ends(t, none, 0, false, 4)
		}
	}
	same()
	put(t, x, "d", 4)
	same()
	drop(t, x, "b", 2)
	same()
	put(t, x, "b", 7)
	same()
	for _, k := range x.Keys() {
		x.Drop(k)
	}
	same()
	holds(t, x, nil)
}

// P5.2, the chapter's run: Put(a, 1), Look(a), Drop(a), Step: found 1, or not.
func TestDroppedAheadOfTheFirstStep(t *testing.T) {
	x := made(t, 1)
	put(t, x, "a", 1)
	l := x.Look("a")
	drop(t, x, "a", 1)
	toEnd(t, l)
	if v, ok := l.Found(); ok != (v == 1) || !ok && v != 0 || l.Steps() > 3 {
		t.Errorf("found %d, %v", v, ok)
	}
	lacks(t, x, "a")
}

// P5.2, example 3: the key that a look stands at is Dropped; it goes on to all that were behind it, and finds what is there all the time.
func TestDropWhereALookStands(t *testing.T) {
	for _, at := range []int{1, 2, 3} {
		x := row(t, "abcde")
		l, none := x.Look("e"), x.Look("z")
		goes(t, l, at)
		goes(t, none, at)
		drop(t, x, "abcde"[at-1:at], int64(at))
		ends(t, l, 5, true, 5)
		ends(t, none, 0, false, 6)
	}
}

// P5.2: what a look stands at is Dropped, and what comes behind that, one by one, just ahead of the look or all at once.
func TestDropAroundALook(t *testing.T) {
	x := row(t, "abcde")
	l := x.Look("e")
	for i, k := range []string{"a", "b", "c", "d"} {
		goes(t, l, 1)
		drop(t, x, k, int64(i+1))
	}
	ends(t, l, 5, true, 5)

	orders := []string{"abcd", "dcba", "bacd", "acbd", "cadb", "dbca"}
	for _, order := range orders {
		for at := range 4 {
			x := row(t, "abcde")
			l, none := x.Look("e"), x.Look("z")
			goes(t, l, at)
			goes(t, none, at)
			for _, k := range strings.Split(order, "") {
				drop(t, x, k, int64(k[0]-'a'+1))
			}
			goesToEnd(t, l, 5, true, 7)
			goesToEnd(t, none, 0, false, 7)
			holds(t, x, []string{"e"}, 5)
		}
	}
}

// goesToEnd is ends, with so many Steps at most.
func goesToEnd(t *testing.T, l *chain.Look, v int64, ok bool, most int) {
	t.Helper()
	toEnd(t, l)
	if got, found := l.Found(); got != v || found != ok || l.Steps() > most {
		t.Errorf("found %d, %v in %d Steps, want %d, %v in %d", got, found, l.Steps(), v, ok, most)
	}
}

// P5.2: keys that are Dropped ahead of where the look stands, and that it has gone by already, are nothing to it.
func TestDropOfWhatWasGoneBy(t *testing.T) {
	x := row(t, "abcde")
	l := x.Look("e")
	goes(t, l, 3)
	drop(t, x, "a", 1)
	drop(t, x, "b", 2)
	put(t, x, "a", 7)
	ends(t, l, 5, true, 5)
	holds(t, x, []string{"a", "c", "d", "e"}, 7, 3, 4, 5)
}

// P5.2: the key that is looked for is Dropped behind where the look stands: found with its number, or not; when it was there never since Look it is not found.
func TestDropOfWhatIsLookedFor(t *testing.T) {
	for at := range 4 {
		x := row(t, "abcde")
		l := x.Look("e")
		goes(t, l, at)
		drop(t, x, "e", 5)
		late := x.Look("e")
		toEnd(t, l)
		if v, ok := l.Found(); ok != (v == 5) || !ok && v != 0 || l.Steps() > 7 {
			t.Errorf("found %d, %v in %d Steps", v, ok, l.Steps())
		}
		ends(t, late, 0, false, 5)
	}
}

// P5.2: a key that is Dropped and Put again with another number is found with one of the two, or not; by a look that began since, with the new one.
func TestDropAndPutWithAnotherNumber(t *testing.T) {
	for at := range 4 {
		x := row(t, "abcde")
		l := x.Look("e")
		goes(t, l, at)
		drop(t, x, "e", 5)
		put(t, x, "e", 55)
		late := x.Look("e")
		toEnd(t, l)
		v, ok := l.Found()
		if ok && v != 5 && v != 55 || !ok && v != 0 || l.Steps() > 8 {
			t.Errorf("found %d, %v in %d Steps", v, ok, l.Steps())
		}
		ends(t, late, 55, true, 1)
	}
}

// P5.2: the key that a look stands at is Dropped and Put again: the look goes on from where it stood, and what is there all the time is found.
func TestDropAndPutWhereALookStands(t *testing.T) {
	for at := 1; at <= 4; at++ {
		x := row(t, "abcde")
		l, none := x.Look("e"), x.Look("z")
		goes(t, l, at)
		goes(t, none, at)
		k := "abcde"[at-1 : at]
		for n := range 10 {
			v, _ := x.Get(k)
			drop(t, x, k, v)
			put(t, x, k, int64(100+n))
		}
		goesToEnd(t, l, 5, true, 17)
		goesToEnd(t, none, 0, false, 17)
	}
}

// P5.2: a key that is Put while a look is under way is found with its number, or not, and makes the look one Step longer at most; keys of other chains make it no longer.
func TestPutWhileALookIsUnderWay(t *testing.T) {
	for at := range 4 {
		x := row(t, "abcd")
		l, kept := x.Look("n"), x.Look("d")
		goes(t, l, at)
		goes(t, kept, min(at, 3))
		put(t, x, "n", 14)
		put(t, x, "m", 13)
		toEnd(t, l)
		if v, ok := l.Found(); ok != (v == 14) || !ok && v != 0 || l.Steps() > 8 {
			t.Errorf("found %d, %v in %d Steps", v, ok, l.Steps())
		}
		goesToEnd(t, kept, 4, true, 8)
	}
	x := made(t, 2)
	odd, even := []string{}, []string{}
	for n := range 40 {
		if k := strconv.Itoa(n); hashed(k)%2 == 1 {
			odd = append(odd, k)
		} else {
			even = append(even, k)
		}
	}
	put(t, x, odd[0], 1)
	l := x.Look(odd[1])
	for _, k := range even {
		put(t, x, k, 2)
	}
	goesToEnd(t, l, 0, false, 3)
}

// P5.2: a key that is Put in front as often as the look steps does not keep it from its end, nor from what it is for.
func TestPutsKeepNoLookFromItsEnd(t *testing.T) {
	x := row(t, "abcdefgh")
	l, none := x.Look("h"), x.Look("z")
	most := 10
	for n := 0; ; n++ {
		a, b := l.Step(), none.Step()
		if a && b {
			break
		}
		if n > 100 {
			t.Fatal("a look without an end")
		}
		k := "new" + strconv.Itoa(n%40)
		if _, why := x.Drop(k); why == api.OK || x.Len() < 40 {
			put(t, x, k, int64(n))
			most++
		}
	}
	if v, ok := l.Found(); v != 8 || !ok || l.Steps() > most {
		t.Errorf("found %d, %v in %d Steps", v, ok, l.Steps())
	}
	if v, ok := none.Found(); v != 0 || ok || none.Steps() > most {
		t.Errorf("found %d, %v in %d Steps", v, ok, none.Steps())
	}
}

// P5.2: a look may stand still for long: the table is emptied and filled behind its back, and it still ends, and finds nothing that never was there with that number.
func TestALookThatStoodStill(t *testing.T) {
	for at := range 5 {
		x := row(t, "abcdef")
		l, kept := x.Look("z"), x.Look("f")
		goes(t, l, at)
		goes(t, kept, at)
		puts := 0
		for n := range 300 {
			for _, k := range x.Keys() {
				if k != "f" {
					x.Drop(k)
				}
			}
			for i := range 63 {
				put(t, x, strconv.Itoa(i), int64(n))
				puts++
			}
		}
		goesToEnd(t, l, 0, false, 6+puts+2)
		goesToEnd(t, kept, 6, true, 6+puts+2)
	}
}

// P5.2: many looks at once, at the same chain, each at another key and with its own number of Steps.
func TestManyLooksAtOnce(t *testing.T) {
	x := made(t, 1)
	for n := range 64 {
		put(t, x, strconv.Itoa(n), int64(n))
	}
	var looks []*chain.Look
	for n := range 64 {
		looks = append(looks, x.Look(strconv.Itoa(n)))
	}
	for n, l := range looks {
		goes(t, l, 63-n)
	}
	for n := range 64 {
		if n%3 > 0 {
			drop(t, x, strconv.Itoa(n), int64(n))
		}
	}
	for n, l := range looks {
		if n%3 == 0 {
			ends(t, l, int64(n), true, 64-n)
			continue
		}
		toEnd(t, l)
		if v, ok := l.Found(); ok != (v == int64(n)) || !ok && v != 0 {
			t.Errorf("the look for %d found %d, %v", n, v, ok)
		}
	}
}

// P5.3: Get answers what a Look finds that nobody disturbs, whatever the table has gone through, and it disturbs no look.
func TestGetIsALook(t *testing.T) {
	r := rand.New(rand.NewSource(7))
	for buckets := 1; buckets <= 64; buckets++ {
		x := made(t, buckets)
		for n := range 300 {
			k := strconv.Itoa(r.Intn(90))
			if r.Intn(3) > 0 {
				x.Put(k, int64(n))
			} else {
				x.Drop(k)
			}
			asked := strconv.Itoa(r.Intn(90))
			l := x.Look(asked)
			for !l.Step() {
				x.Get(asked)
			}
			v, ok := x.Get(asked)
			if got, found := l.Found(); got != v || found != ok {
				t.Fatalf("%d chains: the look for %q found %d, %v; Get: %d, %v", buckets, asked, got, found, v, ok)
			}
		}
	}
}

// R3: a refused Put and a refused Drop turn nothing, in the table and in looks that are under way.
func TestRefusedCallsTurnNothing(t *testing.T) {
	full := made(t, 2)
	for n := range 64 {
		put(t, full, strconv.Itoa(n), int64(n))
	}
	keys := full.Keys()
	for n := range 64 {
		k := strconv.Itoa(n)
		calm := full.Look(k)
		toEnd(t, calm)
		l := full.Look(k)
		for {
			if full.Put(k, 99) != api.ErrBusy || full.Put("more", 99) != api.ErrFull {
				t.Fatal("a Put that is not refused")
			}
			if _, why := full.Drop("more"); why != api.ErrGone {
				t.Fatal("a Drop that is not refused")
			}
			if l.Step() {
				break
			}
		}
		if v, ok := l.Found(); v != int64(n) || !ok || l.Steps() != calm.Steps() {
			t.Errorf("found %d, %v in %d Steps, want %d", v, ok, l.Steps(), calm.Steps())
		}
	}
	if full.Len() != 64 || !slices.Equal(full.Keys(), keys) {
		t.Errorf("%q", full.Keys())
	}
}

// R2: what Keys answers is new memory each time, its spare room too: who writes into it changes no table, no look and no other answer.
func TestKeysAreNewMemory(t *testing.T) {
	for _, keys := range []string{"", "a", "abc", "abcdefgh"} {
		x := row(t, keys)
		want := []string{}
		for i := range keys {
			want = append(want, keys[i:i+1])
		}
		last := x.Look(keys[max(0, len(keys)-1):])
		first, second := x.Keys(), x.Keys()
		scrawl(first)
		if !slices.Equal(second, want) || !slices.Equal(x.Keys(), want) {
			t.Errorf("%q, %q, want %q", second, x.Keys(), want)
		}
		third := x.Keys()
		put(t, x, "new", 1)
		drop(t, x, "new", 1)
		if !slices.Equal(third, want) {
			t.Errorf("an answer that was given changed: %q", third)
		}
		spare := third[:cap(third)]
		scrawl(spare)
		for _, s := range x.Keys()[len(want):cap(x.Keys())] {
			if s == "scrawl" {
				t.Error("spare room is shared")
			}
		}
		if keys != "" {
			ends(t, last, int64(len(keys)), true, len(keys))
		}
		if x.Len() != len(want) || !slices.Equal(x.Keys(), want) {
			t.Errorf("%q, want %q", x.Keys(), want)
		}
	}
}

func scrawl(list []string) {
	list = list[:cap(list)]
	for i := range list {
		list[i] = "scrawl"
	}
}
