package call

import (
	"iter"
	"strconv"

	"warren/api"
)

// The bytes that a line shows as they are: those that can be seen, but the one that begins the others' form.
const (
	firstPlain = '!'
	lastPlain  = '~'
	escape     = '%'
)

const (
	digits     = "0123456789abcdef"
	noCall     = "none"
	wentWell   = "ok"
	wasRefused = "error "
)

// opNames stand in the order of their numbers, of which the first is api.Mkdir.
var opNames = [...]string{
	"mkdir", "rmdir", "open", "close", "read", "write", "seek", "truncate", "link", "unlink",
	"symlink", "readlink", "rename", "info", "chmod", "chown", "chdir", "list", "bind", "unbind",
}

// part is one that a line may tell: it is left out if there is nothing to say.
type part struct {
	says bool
	word string
	what []byte
}

// numberPart is a part that is told if it is not 0.
func numberPart(word string, n int) part {
	return part{says: n != 0, word: word, what: strconv.AppendInt(nil, int64(n), 10)}
}

// textPart is a part that is told if it is not empty.
func textPart[T string | []byte](word string, s T) part {
	return part{says: len(s) > 0, word: word, what: appendPlain(nil, s)}
}

// namesPart is a part that is told if there are names, be they empty.
func namesPart(word string, names []string) part {
	var b []byte
	for i, s := range names {
		if i > 0 {
			b = append(b, ',')
		}
		b = appendPlain(b, s)
	}
	return part{says: len(names) > 0, word: word, what: b}
}

// appendPlain appends the text without any byte that can't be seen.
func appendPlain[T string | []byte](b []byte, s T) []byte {
	for i := range len(s) {
		x := s[i]
		if x >= firstPlain && x <= lastPlain && x != escape {
			b = append(b, x)
		} else {
			b = append(b, escape, digits[x>>4], digits[x&15])
		}
	}
	return b
}

// told goes through those of the parts that say something.
func told(parts ...part) iter.Seq[part] {
	return func(yield func(part) bool) {
		for _, p := range parts {
			if p.says && !yield(p) {
				return
			}
		}
	}
}

// line answers the head, and behind it each part with a blank ahead of it.
func line(head string, parts iter.Seq[part]) string {
	b := []byte(head)
	for p := range parts {
		b = append(b, ' ')
		b = append(b, p.word...)
		b = append(b, p.what...)
	}
	return string(b)
}

// opName answers what the call of this number is called.
func opName(op int) string {
	if op < api.Mkdir || op > api.Unbind {
		return noCall
	}
	return opNames[op-api.Mkdir]
}

// outcome answers how a call went that answered why.
func outcome(why api.Errno) string {
	if why == api.OK {
		return wentWell
	}
	return wasRefused + strconv.Itoa(int(why))
}

// Text answers the call as a line.
func Text(c api.Call) string {
	return line(opName(c.Op), told(
		textPart("", c.Path),
		textPart("", c.To),
		numberPart("fd=", c.Fd),
		numberPart("flags=", c.Flags),
		numberPart("mode=", c.Mode),
		numberPart("n=", c.N),
		numberPart("m=", c.M),
		textPart("data=", c.Data),
	))
}

// Show answers the result as a line.
func Show(r api.Result) string {
	return line(outcome(r.Why), told(
		numberPart("n=", r.N),
		textPart("data=", r.Data),
		namesPart("names=", r.Names),
		numberPart("node=", r.Stat.Node),
		numberPart("kind=", r.Stat.Kind),
		numberPart("mode=", r.Stat.Mode),
		numberPart("uid=", r.Stat.Uid),
		numberPart("gid=", r.Stat.Gid),
		numberPart("links=", r.Stat.Links),
		numberPart("size=", r.Stat.Size),
	))
}
