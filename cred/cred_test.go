package cred_test

import (
	"math"
	"testing"

	"warren/api"
	"warren/cred"
)

// The four who ask for what is of owner 1 and group 1.
func root() api.Cred   { return api.Cred{Uid: 0, Gid: 9} }
func owner() api.Cred  { return api.Cred{Uid: 1, Gid: 9} }
func group() api.Cred  { return api.Cred{Uid: 2, Gid: 1} }
func others() api.Cred { return api.Cred{Uid: 2, Gid: 9} }

// ofOne is a node of owner 1 and group 1, with fields beside that mean nothing here.
func ofOne(mode int) api.Stat {
	return api.Stat{Node: 2, Kind: api.File, Mode: mode, Uid: 1, Gid: 1, Links: 2, Size: 2}
}

func may(t *testing.T, c api.Cred, mode, want int, is bool) {
	t.Helper()
	if got := cred.May(c, ofOne(mode), want); got != is {
		t.Errorf("May(%v, mode %o of {1 1}, %d): %v", c, mode, want, got)
	}
}

func masked(t *testing.T, mode, want int) {
	t.Helper()
	if got := cred.Masked(mode); got != want {
		t.Errorf("Masked(%d): %o, want %o", mode, got, want)
	}
}

func owns(t *testing.T, c api.Cred, s api.Stat, is bool) {
	t.Helper()
	if got := cred.Owns(c, s); got != is {
		t.Errorf("Owns(%v, of {%d %d}): %v", c, s.Uid, s.Gid, got)
	}
}

func sticky(t *testing.T, c api.Cred, dir, s api.Stat, is bool) {
	t.Helper()
	if got := cred.Sticky(c, dir, s); got != is {
		t.Errorf("Sticky(%v, mode %o of {%d %d}, a file of {%d %d}): %v", c, dir.Mode, dir.Uid, dir.Gid, s.Uid, s.Gid, got)
	}
}

// The chapter's runs and examples.
func TestRunsAndExamples(t *testing.T) {
	may(t, api.Cred{Uid: 1, Gid: 1}, 0o700, 7, true)
	may(t, api.Cred{Uid: 2, Gid: 1}, 0o700, 4, false)
	may(t, api.Cred{Uid: 1, Gid: 1}, 0o077, 4, false)
	sticky(t, api.Cred{Uid: 2, Gid: 2}, api.Stat{Mode: 0o1777}, api.Stat{Uid: 3}, true)
	may(t, others(), 0, 0, true)
	masked(t, -1, 0o7777)
	sticky(t, api.Cred{}, api.Stat{Mode: 0o1777, Uid: 4}, api.Stat{Uid: 3}, false)
}

// P8.1: the numbers of what is wanted.
func TestWants(t *testing.T) {
	if cred.X != 1 || cred.W != 2 || cred.R != 4 {
		t.Errorf("P8.1: X %d, W %d, R %d", cred.X, cred.W, cred.R)
	}
}

// P8.1: each of the nine bits alone gives one right to one of the three, and nothing to the others.
func TestEachBitAlone(t *testing.T) {
	askers := []api.Cred{owner(), group(), others()}
	first := []int{0o100, 0o010, 0o001}
	for has := range askers {
		for right := 1; right <= 4; right *= 2 {
			mode := first[has] * right
			for asks, c := range askers {
				for want := 1; want <= 7; want++ {
					may(t, c, mode, want, asks == has && want == right)
				}
			}
		}
	}
}

// P8.1: one class counts alone, the first that fits, even if a later one has more.
func TestOneClassCounts(t *testing.T) {
	both := api.Cred{Uid: 1, Gid: 1}
	for want := 1; want <= 7; want++ {
		may(t, owner(), 0o077, want, false)
		may(t, owner(), 0o070, want, false)
		may(t, owner(), 0o007, want, false)
		may(t, both, 0o077, want, false)
		may(t, both, 0o070, want, false)
		may(t, both, 0o007, want, false)
		may(t, both, 0o700, want, true)
		may(t, group(), 0o707, want, false)
		may(t, group(), 0o007, want, false)
		may(t, group(), 0o070, want, true)
		may(t, others(), 0o770, want, false)
		may(t, others(), 0o007, want, true)
	}
}

// P8.1: Uid 0 has all, with no bit at all, of what is its own too; Gid 0 is a group like others.
func TestRootHasAll(t *testing.T) {
	for want := range 8 {
		may(t, root(), 0, want, true)
		may(t, root(), 0o7777, want, true)
		may(t, api.Cred{Uid: 0, Gid: 1}, 0o707, want, true)
		if !cred.May(api.Cred{}, api.Stat{}, want) {
			t.Errorf("P8.1: May({0 0}, mode 0 of {0 0}, %d): false", want)
		}
		may(t, api.Cred{Uid: 2, Gid: 0}, 0, want, want == 0)
		may(t, api.Cred{Uid: 2, Gid: 0}, 0o770, want, want == 0)
	}
	if cred.May(api.Cred{Uid: 2, Gid: 0}, api.Stat{Mode: 0o707}, 4) || !cred.May(api.Cred{Uid: 2, Gid: 0}, api.Stat{Mode: 0o070}, 7) {
		t.Error("P8.1: Gid 0 of a node of {0 0}")
	}
}

// P8.1: of each want from 0 to 7 all bits must be there, not one of them.
func TestAllOfWant(t *testing.T) {
	for has := range 8 {
		for want := range 8 {
			whole := true
			for bit := 1; bit <= 4; bit *= 2 {
				if want/bit%2 == 1 && has/bit%2 == 0 {
					whole = false
				}
			}
			may(t, owner(), has*0o100, want, whole)
			may(t, group(), has*0o010, want, whole)
			may(t, others(), has*0o001, want, whole)
		}
	}
}

// P8.1: of want its lowest three bits count.
func TestWantsAboveThree(t *testing.T) {
	for _, c := range []api.Cred{owner(), group(), others()} {
		for _, high := range []int{8, 0o10, 0o70, 0o100, 0o1000, 1 << 40, math.MinInt, -8} {
			may(t, c, 0, high, true)
			may(t, c, 0o111, high+1, true)
			may(t, c, 0o111, high+3, false)
			may(t, c, 0o666, high+6, true)
			may(t, c, 0o666, high+1, false)
		}
		may(t, c, 0o777, -1, true)
		may(t, c, 0o776, -1, c == owner() || c == group())
		may(t, c, 0o666, -1, false)
		may(t, c, 0o666, -2, true)
		may(t, c, 0o444, -4, true)
		may(t, c, 0o333, -4, false)
		may(t, c, 0, -8, true)
		may(t, c, 0, math.MinInt, true)
		may(t, c, 0o777, math.MaxInt, true)
		may(t, c, 0o666, math.MaxInt, false)
	}
	may(t, root(), 0, -1, true)
	may(t, root(), 0, math.MaxInt, true)
}

// P8.1: sticky, 2000 and 4000, bits above the twelve and a sign mean nothing for May.
func TestModesWithMore(t *testing.T) {
	for _, more := range []int{0o1000, 0o2000, 0o4000, 0o7000, 0o10000, 0o70000, 1 << 40, math.MinInt, -0o10000, -0o1000} {
		for _, nine := range []int{0, 0o700, 0o070, 0o007, 0o421, 0o124, 0o777} {
			for want := range 8 {
				may(t, owner(), more+nine, want, want&^(nine/0o100) == 0)
				may(t, group(), more+nine, want, want&^(nine/0o010%8) == 0)
				may(t, others(), more+nine, want, want&^(nine%8) == 0)
			}
		}
	}
	for want := range 8 {
		for _, c := range []api.Cred{root(), owner(), group(), others()} {
			may(t, c, -1, want, true)
			may(t, c, math.MaxInt, want, true)
		}
		may(t, owner(), math.MinInt, want, want == 0)
	}
}

// P8.1: who asks is told by Uid and Gid alone, negative ones too.
func TestNegativeIds(t *testing.T) {
	s := api.Stat{Mode: 0o421, Uid: -1, Gid: -2}
	for _, c := range []struct {
		c   api.Cred
		has int
	}{{api.Cred{Uid: -1, Gid: -2}, 4}, {api.Cred{Uid: -1}, 4}, {api.Cred{Uid: -2, Gid: -2}, 2}, {api.Cred{Uid: 1, Gid: -2}, 2}, {api.Cred{Uid: -2, Gid: -1}, 1}, {api.Cred{Uid: 1, Gid: 2}, 1}, {api.Cred{Uid: math.MinInt, Gid: math.MaxInt}, 1}, {api.Cred{Uid: 0}, 7}} {
		for want := range 8 {
			if got := cred.May(c.c, s, want); got != (want&^c.has == 0) {
				t.Errorf("P8.1: May(%v, mode 421 of {-1 -2}, %d): %v", c.c, want, got)
			}
		}
	}
}

// P8.1: Masked answers the lowest twelve bits.
func TestMasked(t *testing.T) {
	masked(t, 0, 0)
	masked(t, 0o7777, 0o7777)
	masked(t, 0o10000, 0)
	masked(t, 0o10001, 1)
	masked(t, 0o17777, 0o7777)
	masked(t, -1, 0o7777)
	masked(t, -0o7777, 1)
	masked(t, -0o10000, 0)
	masked(t, math.MinInt, 0)
	masked(t, math.MinInt+0o644, 0o644)
	masked(t, math.MaxInt, 0o7777)
	masked(t, math.MaxInt-0o7777, 0)
	for bit := range 63 {
		want := 0
		if bit < 12 {
			want = 1 << bit
		}
		masked(t, 1<<bit, want)
	}
	for mode := range 0o7777 + 1 {
		masked(t, mode, mode)
		masked(t, mode-0o10000, mode)
		masked(t, mode+0o10000, mode)
	}
}

// P8.2: Owns asks for the Uid alone.
func TestOwns(t *testing.T) {
	s := ofOne(0o777)
	owns(t, root(), s, true)
	owns(t, api.Cred{}, s, true)
	owns(t, api.Cred{Uid: 0, Gid: 1}, s, true)
	owns(t, api.Cred{}, api.Stat{}, true)
	owns(t, owner(), s, true)
	owns(t, api.Cred{Uid: 1, Gid: 1}, s, true)
	owns(t, group(), s, false)
	owns(t, others(), s, false)
	owns(t, api.Cred{Uid: 2, Gid: 0}, s, false)
	owns(t, api.Cred{Uid: 2}, api.Stat{}, false)
	owns(t, api.Cred{Uid: 2}, api.Stat{Gid: 2, Node: 2, Mode: 2}, false)
	owns(t, api.Cred{Uid: -1}, api.Stat{Uid: -1}, true)
	owns(t, api.Cred{Uid: -1}, api.Stat{Uid: 1}, false)
	owns(t, api.Cred{Uid: -1}, api.Stat{}, false)
	owns(t, api.Cred{Uid: 0}, api.Stat{Uid: -1}, true)
	owns(t, api.Cred{Uid: math.MinInt}, api.Stat{Uid: math.MinInt}, true)
	owns(t, api.Cred{Uid: math.MinInt}, api.Stat{Uid: math.MaxInt}, false)
}

// P8.2: dir's sticky bit keeps all but Uid 0, the owner of dir and the owner of s.
func TestSticky(t *testing.T) {
	for _, mode := range []int{0o1000, 0o1777, 0o3000, 0o5000, 0o7777, 0o11000, -1, math.MaxInt, math.MinInt + 0o1000} {
		dir, s := api.Stat{Mode: mode, Uid: 4, Gid: 5}, api.Stat{Uid: 3, Gid: 6}
		sticky(t, api.Cred{Uid: 0, Gid: 9}, dir, s, false)
		sticky(t, api.Cred{Uid: 4, Gid: 9}, dir, s, false)
		sticky(t, api.Cred{Uid: 3, Gid: 9}, dir, s, false)
		sticky(t, api.Cred{Uid: 2, Gid: 9}, dir, s, true)
		sticky(t, api.Cred{Uid: 2, Gid: 5}, dir, s, true)
		sticky(t, api.Cred{Uid: 2, Gid: 6}, dir, s, true)
		sticky(t, api.Cred{Uid: 2, Gid: 0}, dir, s, true)
		sticky(t, api.Cred{Uid: -4, Gid: 9}, dir, s, true)
	}
}

// P8.2: without the bit nobody is kept; it is dir's, not s's.
func TestNotSticky(t *testing.T) {
	for _, mode := range []int{0, 0o777, 0o2000, 0o4000, 0o6777, 0o10000, 0o16777, math.MinInt, -0o10000} {
		dir, s := api.Stat{Mode: mode, Uid: 4, Gid: 5}, api.Stat{Mode: 0o1777, Uid: 3, Gid: 6}
		for uid := -4; uid <= 5; uid++ {
			sticky(t, api.Cred{Uid: uid, Gid: 9}, dir, s, false)
		}
	}
}

// P8.2: nodes of Uid 0 and of negative Uids.
func TestStickyOfRoot(t *testing.T) {
	dir := api.Stat{Mode: 0o1777}
	sticky(t, api.Cred{Uid: 2}, dir, api.Stat{}, true)
	sticky(t, api.Cred{Uid: 2}, dir, api.Stat{Uid: 2}, false)
	sticky(t, api.Cred{Uid: 0}, dir, api.Stat{Uid: 2}, false)
	sticky(t, api.Cred{Uid: -1}, dir, api.Stat{Uid: 1}, true)
	sticky(t, api.Cred{Uid: -1}, dir, api.Stat{Uid: -1}, false)
	sticky(t, api.Cred{Uid: -1}, api.Stat{Mode: 0o1777, Uid: -1}, api.Stat{Uid: 1}, false)
}
