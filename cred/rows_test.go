package cred_test

import (
	"strings"
	"testing"

	"warren/api"
	"warren/cred"
)

// letters writes the mode's nine bits as they are listed: rwx of the owner, the group, the others.
func letters(mode int) string {
	var b strings.Builder
	for i, value := 0, 0o400; value > 0; i, value = i+1, value/2 {
		if mode/value%2 == 1 {
			b.WriteByte("rwx"[i%3])
		} else {
			b.WriteByte('-')
		}
	}
	return b.String()
}

// told is May by the chapter's words, told with letters.
func told(c api.Cred, s api.Stat, want int) bool {
	if c.Uid == 0 {
		return true
	}
	mode := letters(s.Mode)
	has := mode[6:]
	if c.Gid == s.Gid {
		has = mode[3:6]
	}
	if c.Uid == s.Uid {
		has = mode[:3]
	}
	for _, letter := range letters(want) {
		if letter != '-' && !strings.ContainsRune(has, letter) {
			return false
		}
	}
	return true
}

// P8.1: all modes and wants, for all who may ask, against the chapter's words.
func TestAllModes(t *testing.T) {
	for mode := range 0o10000 {
		for uid := range 3 {
			for gid := range 3 {
				c, s := api.Cred{Uid: uid, Gid: gid}, api.Stat{Mode: mode, Uid: 1, Gid: 1}
				for want := range 8 {
					if got := cred.May(c, s, want); got != told(c, s, want) {
						t.Fatalf("P8.1: May(%v, mode %o of {1 1}, %d): %v", c, mode, want, got)
					}
				}
			}
		}
	}
}

// P8.2: all modes of a directory, and all who ask, own it and own what lies in it.
func TestAllSticky(t *testing.T) {
	for mode := range 0o20000 {
		for row := range 27 {
			uid, ofDir, ofFile := row%3, row/3%3, row/9
			c := api.Cred{Uid: uid, Gid: 1}
			dir, s := api.Stat{Mode: mode, Uid: ofDir, Gid: 1}, api.Stat{Mode: mode ^ 0o1000, Uid: ofFile, Gid: 1}
			free := uid == 0 || uid == ofDir || uid == ofFile
			if got := cred.Sticky(c, dir, s); got != (mode/0o1000%2 == 1 && !free) {
				t.Fatalf("P8.2: Sticky(%v, mode %o of %d, a file of %d): %v", c, mode, ofDir, ofFile, got)
			}
		}
	}
}
