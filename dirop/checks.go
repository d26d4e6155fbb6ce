package dirop

import (
	"strings"

	"warren/api"
	"warren/cred"
	"warren/walk"
)

const (
	zero    = "\x00"
	rootUid = 0
	asItWas = -1 // of Chown: the number stays
)

// refuse answers why, if it is so.
func refuse(is bool, why api.Errno) api.Errno {
	if is {
		return why
	}
	return api.OK
}

// stat tells the place's node; of one that is not live it tells nothing.
func (d *deed) stat(p api.Place) api.Stat {
	st, _ := d.T.Stat(p.Node)
	return st
}

// walk goes along the path, and keeps what it comes to.
func (d *deed) walk(f *walk.Found, path string, follow bool) step {
	return func() (why api.Errno) {
		*f, why = walk.Walk(d.T, d.M, d.Root, d.Cwd, d.Cred, path, follow)
		return why
	}
}

// there asks for something that can be found.
func there(f *walk.Found) step {
	return func() api.Errno { return refuse(!f.Has, api.NoEnt) }
}

// named asks for something that was come to by a name, which can be taken away.
func named(f *walk.Found, why api.Errno) step {
	return func() api.Errno { return refuse(f.Last == "", why) }
}

// fresh asks for a name that can be given.
func fresh(f *walk.Found) step {
	return func() api.Errno { return refuse(f.Has || f.Last == "", api.Exists) }
}

// bare asks for a name that may be of what is no Dir.
func bare(f *walk.Found) step {
	return func() api.Errno { return refuse(f.Slash, api.NoEnt) }
}

// is asks for one of that kind.
func (d *deed) is(f *walk.Found, kind int, why api.Errno) step {
	return func() api.Errno { return refuse(d.stat(f.At).Kind != kind, why) }
}

// isNot asks for one of another kind.
func (d *deed) isNot(f *walk.Found, kind int, why api.Errno) step {
	return func() api.Errno { return refuse(d.stat(f.At).Kind == kind, why) }
}

// free asks that no mount be at what the name is taken from, if there is anything: neither the one that was come into by it, nor one that lies at the node in whichever mount.
func (d *deed) free(f *walk.Found) step {
	return func() api.Errno {
		return refuse(f.Has && (f.At.Mount != f.Dir.Mount || d.M.Covered(f.At.Node)), api.MountBusy)
	}
}

// in asks that names may be given and taken in the Dir.
func (d *deed) in(f *walk.Found) step {
	return func() api.Errno { return refuse(!cred.May(d.Cred, d.stat(f.Dir), cred.W), api.NoAccess) }
}

// unstuck asks that the Dir's sticky bit not keep the name, if it is there.
func (d *deed) unstuck(f *walk.Found) step {
	return func() api.Errno {
		return refuse(f.Has && cred.Sticky(d.Cred, d.stat(f.Dir), d.stat(f.At)), api.NoPerm)
	}
}

// may asks for a right to what Path is.
func (d *deed) may(want int) step {
	return func() api.Errno { return refuse(!cred.May(d.Cred, d.stat(d.from.At), want), api.NoAccess) }
}

func (d *deed) owns() api.Errno {
	return refuse(!cred.Owns(d.Cred, d.stat(d.from.At)), api.NoPerm)
}

func (d *deed) root() api.Errno {
	return refuse(d.Cred.Uid != rootUid, api.NoPerm)
}

// linkable asks for a Dir of the mount in which the node was found.
func (d *deed) linkable() api.Errno {
	return refuse(d.to.Dir.Mount != d.from.At.Mount, api.CrossDev)
}

// text asks for a path that may be a Symlink's text. Whether its parts may be names is asked once it is followed.
func (d *deed) text() api.Errno {
	switch text := d.call.Path; {
	case text == "":
		return api.NoEnt
	case len(text) > api.MaxPath:
		return api.NameLong
	case strings.Contains(text, zero):
		return api.Invalid
	}
	return api.OK
}

// slashed asks that a new name with a slash behind it be a Dir's.
func (d *deed) slashed() api.Errno {
	return refuse(d.to.Slash && !d.to.Has && d.stat(d.from.At).Kind != api.Dir, api.NotDir)
}

// movable asks for Dirs of one mount.
func (d *deed) movable() api.Errno {
	return refuse(d.from.Dir.Mount != d.to.Dir.Mount, api.CrossDev)
}

// turnable asks that a Dir that comes to lie in another one may be written, because what lies above it turns.
func (d *deed) turnable() api.Errno {
	st := d.stat(d.from.At)
	return refuse(st.Kind == api.Dir && d.from.Dir.Node != d.to.Dir.Node && !cred.May(d.Cred, st, cred.W), api.NoAccess)
}

// owners asks for numbers of which each is one, or asItWas.
func (d *deed) owners() api.Errno {
	return refuse(d.call.N < asItWas || d.call.M < asItWas, api.Invalid)
}

func (d *deed) size() api.Errno {
	return refuse(d.call.N < 0, api.Invalid)
}

// top asks for a mount's top, not that of mount 0.
func (d *deed) top() api.Errno {
	_, is := d.M.Up(d.from.At)
	return refuse(!is, api.Invalid)
}

// lowest asks that no mount lie at a place of the one that is to go.
func (d *deed) lowest() api.Errno {
	return refuse(len(d.M.Above(d.from.At.Mount)) > 0, api.MountBusy)
}
