package model

import (
	"bytes"
	"slices"

	"warren/api"
)

// Same tells whether both are the same in all that later calls hang on.
func (m *Model) Same(o *Model) bool {
	return o != nil && m.size == o.size && slices.Equal(m.procs, o.procs) && m.nodes == o.nodes && m.mounts == o.mounts &&
		m.sameNodes(o) && m.sameMounts(o) && m.sameFiles(o)
}

func (m *Model) sameNodes(o *Model) bool {
	return slices.Equal(m.Live(), o.Live()) && !slices.ContainsFunc(m.Live(), func(n int) bool { return !m.sameNode(o, n) })
}

// sameNode tells whether the node, which is live in both, is alike in them.
func (m *Model) sameNode(o *Model, n int) bool {
	t, u := m.world.T, o.world.T
	st, _ := t.Stat(n)
	other, _ := u.Stat(n)
	if st != other || t.Up(n) != u.Up(n) || t.Text(n) != u.Text(n) || m.blocks[n] != o.blocks[n] {
		return false
	}
	for _, s := range t.Names(n) {
		node, _ := t.Find(n, s)
		if there, _ := u.Find(n, s); there != node {
			return false
		}
	}
	// Only a File has bytes: of all else none are read.
	data, _ := t.Read(n, 0, st.Size)
	others, _ := u.Read(n, 0, st.Size)
	return slices.Equal(t.Names(n), u.Names(n)) && bytes.Equal(data, others)
}

// sameMounts tells whether the mounts of both are alike, where their live nodes are.
func (m *Model) sameMounts(o *Model) bool {
	t, u := m.world.M, o.world.M
	if !slices.Equal(t.List(), u.List()) {
		return false
	}
	for _, k := range t.List() {
		top, _ := t.Root(k)
		if other, _ := u.Root(k); other != top {
			return false
		}
		for _, n := range m.Live() {
			if p := (api.Place{Mount: k, Node: n}); t.Down(p) != u.Down(p) {
				return false
			}
		}
	}
	return true
}

// sameFiles tells whether the descriptors of both are alike, where their processes are.
func (m *Model) sameFiles(o *Model) bool {
	for proc := range m.procs {
		for fd := range api.MaxFiles {
			f, why := m.files.Get(proc, fd)
			if other, whyNot := o.files.Get(proc, fd); other != f || whyNot != why {
				return false
			}
		}
	}
	return true
}
