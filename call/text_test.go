package call_test

import (
	"math"
	"strings"
	"testing"
	"unsafe"

	"warren/api"
	"warren/call"
)

// texts lets Text answer just this line.
func texts(t *testing.T, c api.Call, want string) {
	t.Helper()
	if got := call.Text(c); got != want {
		t.Errorf("Text(op %d): %.80q, want %.80q", c.Op, got, want)
	}
}

// shows lets Show answer just this line.
func shows(t *testing.T, r api.Result, want string) {
	t.Helper()
	if got := call.Show(r); got != want {
		t.Errorf("Show(why %d): %.80q, want %.80q", int(r.Why), got, want)
	}
}

// P16.2: a name for each Op, and none for the others.
func TestTextOfOps(t *testing.T) {
	for op, want := range map[int]string{
		api.Mkdir: "mkdir", api.Rmdir: "rmdir", api.Open: "open", api.Close: "close", api.Read: "read",
		api.Write: "write", api.Seek: "seek", api.Truncate: "truncate", api.Link: "link", api.Unlink: "unlink",
		api.Link2: "symlink", api.Readlink: "readlink", api.Rename: "rename", api.Info: "info", api.Chmod: "chmod",
		api.Chown: "chown", api.Chdir: "chdir", api.List: "list", api.Bind: "bind", api.Unbind: "unbind",
		0: "none", 21: "none", -1: "none", 256: "none", 257: "none", math.MinInt: "none", math.MaxInt: "none",
	} {
		texts(t, api.Call{Op: op}, want)
		texts(t, api.Call{Op: op, To: "x", M: 1}, want+" x m=1")
	}
}

// P16.2: each field alone, at 0, not, and below.
func TestTextOfNumbers(t *testing.T) {
	for _, f := range fields() {
		for n, digits := range map[int]string{
			1: "1", -1: "-1", 10: "10", 0o755: "493", math.MaxInt32: "2147483647", math.MinInt32: "-2147483648",
			math.MaxInt: "9223372036854775807", math.MinInt: "-9223372036854775808",
		} {
			texts(t, with(api.Call{Op: api.Seek}, f, n), "seek "+f.word+"="+digits)
		}
		texts(t, with(api.Call{Op: api.Seek}, f, 0), "seek")
	}
}

// P16.2: the order of the fields, and what is left out of it.
func TestTextOrder(t *testing.T) {
	all := api.Call{Op: api.Open, Path: "p", To: "t", Fd: 1, Flags: 2, Mode: 3, N: 4, M: 5, Data: []byte("d")}
	texts(t, all, "open p t fd=1 flags=2 mode=3 n=4 m=5 data=d")
	c := all
	c.Path = ""
	texts(t, c, "open t fd=1 flags=2 mode=3 n=4 m=5 data=d")
	c.To = ""
	texts(t, c, "open fd=1 flags=2 mode=3 n=4 m=5 data=d")
	c = all
	c.Data = []byte{}
	texts(t, c, "open p t fd=1 flags=2 mode=3 n=4 m=5")
	for _, f := range fields() {
		word := f.word + "=" + string(rune('0'+*f.of(&all)))
		texts(t, with(all, f, 0), strings.ReplaceAll("open p t fd=1 flags=2 mode=3 n=4 m=5 data=d", word+" ", ""))
	}
	texts(t, api.Call{Op: api.Rename, Path: "a", To: "b"}, "rename a b")
	texts(t, api.Call{Op: api.Write, Path: "data=x", Data: []byte("fd=3")}, "write data=x data=fd=3")
}

// plain are the bytes 33 to 126 without %, each of which stands for itself.
const plain = "!\"#$&'()*+,-./0123456789:;<=>?@ABCDEFGHIJKLMNOPQRSTUVWXYZ[\\]^_`abcdefghijklmnopqrstuvwxyz{|}~"

// hex are the digits behind a %.
const hex = "0123456789abcdef"

// written is what a line shows for this byte.
func written(x byte) string {
	if strings.IndexByte(plain, x) >= 0 {
		return string([]byte{x})
	}
	return "%" + hex[x/16:x/16+1] + hex[x%16:x%16+1]
}

// P16.2: every byte, in every text, alone and between others.
func TestEveryByte(t *testing.T) {
	for x := range 256 {
		s, w := string([]byte{byte(x)}), written(byte(x))
		texts(t, api.Call{Op: api.Link, Path: s}, "link "+w)
		texts(t, api.Call{Op: api.Link, To: s}, "link "+w)
		texts(t, api.Call{Op: api.Link, Data: []byte(s)}, "link data="+w)
		texts(t, api.Call{Op: api.Link, Path: "a" + s + "b" + s, To: s + s, Data: []byte(s + "c")}, "link a"+w+"b"+w+" "+w+w+" data="+w+"c")
		shows(t, api.Result{Data: []byte(s)}, "ok data="+w)
		shows(t, api.Result{Names: []string{s, "a" + s, s + s}}, "ok names="+w+",a"+w+","+w+w)
	}
}

// P16.2: the bytes at which the form changes, in words.
func TestBytesAtTheEdges(t *testing.T) {
	for s, want := range map[string]string{
		"\x00": "%00", "\x1f": "%1f", " ": "%20", "!": "!", "$": "$", "%": "%25", "&": "&", "~": "~",
		"\x7f": "%7f", "\x80": "%80", "\xff": "%ff", "\n": "%0a", "%20": "%2520", "\u00e9": "%c3%a9", "A%": "A%25",
	} {
		texts(t, api.Call{Op: api.Info, Path: s}, "info "+want)
		texts(t, api.Call{Op: api.Info, To: s}, "info "+want)
		texts(t, api.Call{Op: api.Info, Data: []byte(s)}, "info data="+want)
		shows(t, api.Result{Data: []byte(s)}, "ok data="+want)
		shows(t, api.Result{Names: []string{s}}, "ok names="+want)
	}
}

// P16.2: ok, or error and the number.
func TestShowOfWhy(t *testing.T) {
	for why, want := range map[api.Errno]string{
		api.OK: "ok", api.ErrArg: "error 1", api.ErrLong: "error 3", api.ErrEnd: "error 10", api.NoPerm: "error 31",
		api.NotSymlink: "error 49", 2: "error 2", 1000: "error 1000", -1: "error -1",
		math.MaxInt: "error 9223372036854775807", math.MinInt: "error -9223372036854775808",
	} {
		shows(t, api.Result{Why: why}, want)
		shows(t, api.Result{Why: why, N: 3, Names: []string{"a"}}, want+" n=3 names=a")
	}
}

// P16.2: each of the result's numbers alone, at 0, not, and below.
func TestShowOfNumbers(t *testing.T) {
	for n, digits := range map[int]string{
		1: "1", -1: "-1", 10: "10", 0o755: "493", math.MaxInt: "9223372036854775807", math.MinInt: "-9223372036854775808",
	} {
		shows(t, api.Result{N: n}, "ok n="+digits)
		shows(t, api.Result{Stat: api.Stat{Node: n}}, "ok node="+digits)
		shows(t, api.Result{Stat: api.Stat{Kind: n}}, "ok kind="+digits)
		shows(t, api.Result{Stat: api.Stat{Mode: n}}, "ok mode="+digits)
		shows(t, api.Result{Stat: api.Stat{Uid: n}}, "ok uid="+digits)
		shows(t, api.Result{Stat: api.Stat{Gid: n}}, "ok gid="+digits)
		shows(t, api.Result{Stat: api.Stat{Links: n}}, "ok links="+digits)
		shows(t, api.Result{Stat: api.Stat{Size: n}}, "ok size="+digits)
	}
	shows(t, api.Result{}, "ok")
}

// P16.2: the order of a result's fields.
func TestShowOrder(t *testing.T) {
	s := api.Stat{Node: 1, Kind: 2, Mode: 3, Uid: 4, Gid: 5, Links: 6, Size: 7}
	r := api.Result{Why: api.NoEnt, N: 8, Data: []byte("d"), Names: []string{"x", "y"}, Stat: s}
	shows(t, r, "error 32 n=8 data=d names=x,y node=1 kind=2 mode=3 uid=4 gid=5 links=6 size=7")
	r = api.Result{Data: []byte{}, Names: []string{}, Stat: api.Stat{Node: 1, Gid: 5, Size: 7}}
	shows(t, r, "ok node=1 gid=5 size=7")
}

// P16.2: names with a comma between them, also if they are empty; a list without any is not told.
func TestShowOfNames(t *testing.T) {
	for want, names := range map[string][]string{
		"ok":                    nil,
		"ok names=":             {""},
		"ok names=,":            {"", ""},
		"ok names=a":            {"a"},
		"ok names=a,":           {"a", ""},
		"ok names=,a":           {"", "a"},
		"ok names=a,,b%20c":     {"a", "", "b c"},
		"ok names=b,a,b":        {"b", "a", "b"},
		"ok names=a,b,%25":      {"a,b", "%"},
		"ok names=,,,,%252c%00": {"", "", "", "", "%2c\x00"},
	} {
		shows(t, api.Result{Names: names}, want)
	}
	shows(t, api.Result{Names: []string{}}, "ok")
}

// P16.2: what Right refuses has a text too.
func TestTextOfWhatIsNotRight(t *testing.T) {
	texts(t, api.Call{Op: 1, Path: xs(5001), To: xs(70000), Data: []byte(xs(2001))}, "mkdir "+xs(5001)+" "+xs(70000)+" data="+xs(2001))
	shows(t, api.Result{Data: []byte(noughts(3000))}, "ok data="+strings.Repeat("%00", 3000))
}

// textIn is the text that lies in b, without a copy: it shows when its memory is written or kept.
func textIn(b []byte) string { return unsafe.String(&b[0], len(b)) }

// R2: neither a call nor a result is changed, spare room included, and no line keeps a piece of them.
func TestLinesShareNoMemory(t *testing.T) {
	path, to, data := []byte("path"), []byte("to"), []byte("data and room")
	c := api.Call{Op: 99, Path: textIn(path), To: textIn(to), Data: data[:4]}
	line := call.Text(c)
	b, _ := call.Encode(api.Call{Op: 1, Path: c.Path, To: c.To, Data: c.Data})
	was := string(b)
	names := []string{textIn(path), textIn(to), "room"}
	shown := call.Show(api.Result{Data: data[:4], Names: names[:2]})
	if string(path) != "path" || string(to) != "to" || string(data) != "data and room" || names[0] != "path" || names[1] != "to" || names[2] != "room" {
		t.Errorf("Text, Encode or Show changed what was handed in: %q %q %q %q", path, to, data, names)
	}
	clear(path)
	clear(to)
	clear(data)
	if line != "none path to data=data" || shown != "ok data=data names=path,to" || string(b) != was {
		t.Errorf("Text, Show or Encode kept what was handed in: %q, %q, %q", line, shown, b)
	}
}
