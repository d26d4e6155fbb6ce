package dirop

import (
	"warren/api"
	"warren/cred"
)

const (
	dirBits     = 0o1777 // of a mode, those that a new Dir has
	symlinkMode = 0o777
)

// own answers what a new node is like: it belongs to who calls.
func (d *deed) own(kind, mode int) api.Stat {
	return api.Stat{Kind: kind, Mode: mode, Uid: d.Cred.Uid, Gid: d.Cred.Gid}
}

func (d *deed) mkdir() api.Errno {
	_, why := d.T.Make(d.from.Dir.Node, d.from.Last, d.own(api.Dir, d.call.Mode&dirBits), "")
	return why
}

func (d *deed) part() api.Errno {
	return d.T.Part(d.from.Dir.Node, d.from.Last)
}

func (d *deed) link() api.Errno {
	return d.T.Join(d.to.Dir.Node, d.to.Last, d.from.At.Node)
}

func (d *deed) symlink() api.Errno {
	_, why := d.T.Make(d.to.Dir.Node, d.to.Last, d.own(api.Symlink, symlinkMode), d.call.Path)
	return why
}

func (d *deed) readlink() api.Errno {
	d.result.Data = []byte(d.T.Text(d.from.At.Node))
	return api.OK
}

func (d *deed) rename() api.Errno {
	return d.T.Move(d.from.Dir.Node, d.from.Last, d.to.Dir.Node, d.to.Last)
}

func (d *deed) info() api.Errno {
	d.result.Stat = d.stat(d.from.At)
	return api.OK
}

func (d *deed) chmod() api.Errno {
	return d.T.SetMode(d.from.At.Node, cred.Masked(d.call.Mode))
}

func (d *deed) chown() api.Errno {
	st, uid, gid := d.stat(d.from.At), d.call.N, d.call.M
	if uid == asItWas {
		uid = st.Uid
	}
	if gid == asItWas {
		gid = st.Gid
	}
	return d.T.SetOwner(d.from.At.Node, uid, gid)
}

func (d *deed) truncate() api.Errno {
	return d.T.Cut(d.from.At.Node, d.call.N)
}

func (d *deed) list() api.Errno {
	d.result.Names = d.T.Names(d.from.At.Node)
	return api.OK
}

func (d *deed) chdir() api.Errno {
	d.place = d.from.At
	return api.OK
}

// bind lays what Path is over what To is. Both are live Dirs by now, so that neither Hold is refused.
func (d *deed) bind() api.Errno {
	_, why := d.M.Bind(d.to.At, d.from.At.Node)
	switch why {
	case api.OK:
		d.T.Hold(d.to.At.Node)
		d.T.Hold(d.from.At.Node)
	case api.ErrFull:
		why = api.NoSpace
	}
	return why
}

// unbind lets the mount be gone whose top Path is. Of one that another call than Bind laid the nodes may not be held: then there is nothing to let go.
func (d *deed) unbind() api.Errno {
	at, _ := d.M.Up(d.from.At)
	if why := d.M.Unbind(d.from.At.Mount); why != api.OK {
		return why
	}
	d.T.Loose(at.Node)
	d.T.Loose(d.from.At.Node)
	return api.OK
}
