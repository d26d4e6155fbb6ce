package model

import (
	"warren/api"
	"warren/cred"
	"warren/dirop"
	"warren/file"
	"warren/walk"
)

const (
	allFlags = 2*api.OnlyDir - 1
	fileBits = 0o777   // of a mode, those that a new File has
	farthest = 1 << 31 // where a Seek may come to
	rootUid  = 0
)

// From where Seek counts.
const (
	fromStart = iota
	fromPos
	fromEnd
)

// deed is a call that is being done.
type deed struct {
	*Model
	proc   int
	call   api.Call
	found  walk.Found // of Open and Unbind: what Path comes to
	file   file.File  // of a call on a descriptor: what that is
	stat   api.Stat   // and its node
	result api.Result
}

// step is a check, which turns nothing, or does what is asked for, once nothing behind it is refused. It answers why the call is refused.
type step func() api.Errno

// steps answers the call's steps, in the order in which the chapter tells its refusals: of several that apply the first one counts.
func (d *deed) steps() []step {
	switch d.call.Op {
	case api.Open:
		return []step{d.flags, d.room, d.walk(d.follows()), d.fresh, d.standing, d.open}
	case api.Close:
		return []step{d.opened(0), d.close}
	case api.Read:
		return []step{d.opened(api.ForRead), d.noDir, d.read}
	case api.Write:
		return []step{d.opened(api.ForWrite), d.write}
	case api.Seek:
		return []step{d.opened(0), d.noDir, d.seek}
	case api.Chdir:
		return []step{d.chdir}
	case api.Unbind:
		return []step{d.unused, d.named}
	}
	return []step{d.named}
}

// who answers who calls.
func (d *deed) who() dirop.Who { return d.procs[d.proc] }

// has tells whether the call has all of these flags.
func (d *deed) has(flags int) bool { return d.call.Flags&flags == flags }

// named does a call on names. What is no call at all is refused there, too.
func (d *deed) named() api.Errno {
	d.result, _ = dirop.Do(d.world, d.who(), d.call)
	return d.result.Why
}

func (d *deed) chdir() api.Errno {
	r, to := dirop.Do(d.world, d.who(), d.call)
	if r.Why == api.OK {
		d.stand(d.proc, to)
	}
	return r.Why
}

// stand lets the process stand at that place.
func (m *Model) stand(proc int, at api.Place) {
	// The new one is held first: it may be the former.
	m.world.T.Hold(at.Node)
	m.world.T.Loose(m.procs[proc].Cwd.Node)
	m.procs[proc].Cwd = at
}

// unused asks that nobody be in the mount that is to go. All else that Unbind refuses dirop tells, behind this: so what it would refuse first (without the right, or where Path is no mount's top) is left to it.
func (d *deed) unused() api.Errno {
	if d.who().Cred.Uid != rootUid || d.walk(true)() != api.OK {
		return api.OK
	}
	if _, top := d.world.M.Up(d.found.At); top && d.isUsed(d.found.At.Mount) {
		return api.MountBusy
	}
	return api.OK
}

// isUsed tells whether a process stands, or a file is open, at a place of the mount.
func (m *Model) isUsed(mount int) bool {
	for _, p := range m.procs {
		if p.Cwd.Mount == mount {
			return true
		}
	}
	return m.files.In(mount) > 0
}

// flags asks for flags that go together.
func (d *deed) flags() api.Errno {
	switch {
	case d.call.Flags < 1 || d.call.Flags > allFlags,
		!d.has(api.ForRead) && !d.has(api.ForWrite),
		d.has(api.Cut) && !d.has(api.ForWrite),
		d.has(api.OnlyDir | api.Make):
		return api.Invalid
	}
	return api.OK
}

func (d *deed) room() api.Errno { return d.files.Room(d.proc) }

// follows tells whether Open follows a Symlink at its path's end. One that asks for a new name does not: the Symlink has it.
func (d *deed) follows() bool {
	return !d.has(api.NoFollow) && !d.has(api.Make|api.New)
}

// walk goes along Path, and keeps what it comes to.
func (d *deed) walk(follow bool) step {
	return func() (why api.Errno) {
		d.found, why = walk.Walk(d.world.T, d.world.M, d.world.Root, d.who().Cwd, d.who().Cred, d.call.Path, follow)
		return why
	}
}

// may tells whether who calls has the right to the node.
func (d *deed) may(st api.Stat, want int) bool { return cred.May(d.who().Cred, st, want) }

// fresh makes the File that Path does not come to. Its own mode does not keep it from being opened.
func (d *deed) fresh() api.Errno {
	dir, _ := d.world.T.Stat(d.found.Dir.Node)
	switch {
	case d.found.Has:
		return api.OK
	case !d.has(api.Make):
		return api.NoEnt
	case d.found.Slash:
		return api.IsDir
	case !d.may(dir, cred.W):
		return api.NoAccess
	}
	who := d.who().Cred
	st := api.Stat{Kind: api.File, Mode: d.call.Mode & fileBits, Uid: who.Uid, Gid: who.Gid}
	node, why := d.world.T.Make(dir.Node, d.found.Last, st, "")
	d.found.At = api.Place{Mount: d.found.Dir.Mount, Node: node}
	return why
}

// standing asks that what Path comes to, unless it was made by now, may be opened so, and cuts it, if that is asked for.
func (d *deed) standing() api.Errno {
	st, _ := d.world.T.Stat(d.found.At.Node)
	isDir := st.Kind == api.Dir
	switch {
	case !d.found.Has:
		return api.OK
	case d.has(api.Make | api.New):
		return api.Exists
	case st.Kind == api.Symlink:
		return api.Loop
	case d.has(api.OnlyDir) && !isDir:
		return api.NotDir
	case isDir && (d.has(api.ForWrite) || d.has(api.Make)):
		return api.IsDir
	case d.has(api.ForRead) && !d.may(st, cred.R), d.has(api.ForWrite) && !d.may(st, cred.W):
		return api.NoAccess
	case d.has(api.Cut):
		return d.world.T.Cut(st.Node, 0)
	}
	return api.OK
}

func (d *deed) open() (why api.Errno) {
	d.world.T.Hold(d.found.At.Node)
	d.result.N, why = d.files.Open(d.proc, d.found.At, d.call.Flags)
	return why
}

// opened asks for a descriptor that was opened with these flags, and keeps what it is.
func (d *deed) opened(flags int) step {
	return func() (why api.Errno) {
		d.file, why = d.files.Get(d.proc, d.call.Fd)
		switch {
		case why != api.OK:
			return why
		case d.file.Flags&flags != flags:
			return api.BadFd
		}
		d.stat, _ = d.world.T.Stat(d.file.At.Node)
		return api.OK
	}
}

func (d *deed) noDir() api.Errno {
	if d.stat.Kind == api.Dir {
		return api.IsDir
	}
	return api.OK
}

func (d *deed) close() api.Errno {
	d.files.Close(d.proc, d.call.Fd)
	return d.world.T.Loose(d.stat.Node)
}

// goOn lets the descriptor be gone on with at pos.
func (d *deed) goOn(pos int) api.Errno {
	return d.files.Seek(d.proc, d.call.Fd, pos)
}

func (d *deed) read() (why api.Errno) {
	if d.result.Data, why = d.world.T.Read(d.stat.Node, d.file.Pos, d.call.N); why != api.OK {
		return why
	}
	return d.goOn(d.file.Pos + len(d.result.Data))
}

func (d *deed) write() api.Errno {
	at, data := d.file.Pos, d.call.Data
	if d.file.Flags&api.Append != 0 {
		at = d.stat.Size
	}
	if why := d.world.T.Write(d.stat.Node, at, data); why != api.OK {
		return why
	}
	d.result.N = len(data)
	if len(data) > 0 {
		d.blocks[d.stat.Node] |= between(at, at+len(data))
	}
	return d.goOn(at + len(data))
}

func (d *deed) seek() api.Errno {
	from, n := 0, d.call.N
	switch d.call.M {
	case fromStart:
	case fromPos:
		from = d.file.Pos
	case fromEnd:
		from = d.stat.Size
	default:
		return api.Invalid
	}
	// N is asked for first: a sum of any numbers might wrap round.
	if n < -farthest || n > farthest || from+n < 0 || from+n > farthest {
		return api.Invalid
	}
	d.result.N = from + n
	return d.goOn(from + n)
}
