package model

import (
	"maps"
	"slices"
	"strconv"

	"warren/api"
	"warren/file"
	"warren/tree"
)

// Copy answers a Model by itself that is Same. The layers below tell what they keep, but are not copied as they are: so each is made anew by its own calls, every number given again, also those of what is gone.
func (m *Model) Copy() *Model {
	var who []api.Cred
	for _, p := range m.procs {
		who = append(who, p.Cred)
	}
	o, _ := New(m.size, who)
	o.nodes, o.mounts, o.blocks = m.nodes, m.mounts, maps.Clone(m.blocks)
	b := &builder{from: m.world.T, to: o.world.T, spare: spareName(m.world.T)}
	b.makeNodes(m.nodes)
	b.giveNames()
	for _, n := range m.Live() {
		b.write(n, m.blocks[n])
	}
	o.layMounts(m)
	for proc, p := range m.procs {
		o.stand(proc, p.Cwd)
	}
	o.openFiles(m)
	b.looseNodes()
	return o
}

// layMounts lets all mounts be laid as they are in from, the eldest first: a mount lies at a place of an elder one.
func (m *Model) layMounts(from *Model) {
	for k := 1; k <= from.mounts; k++ {
		top, there := from.world.M.Root(k)
		if !there {
			// No node is 0, so that no mount lies there.
			m.world.M.Bind(api.Place{}, 0)
			m.world.M.Unbind(k)
			continue
		}
		at, _ := from.world.M.Up(api.Place{Mount: k, Node: top})
		m.world.M.Bind(at, top)
		m.world.T.Hold(at.Node)
		m.world.T.Hold(top)
	}
}

// openFiles lets all files be open as they are in from. Those of the highest descriptors come first, so that the table is never fuller than it was when the last of these was opened: its process had all descriptors below it then, too.
func (m *Model) openFiles(from *Model) {
	for fd := api.MaxFiles - 1; fd >= 0; fd-- {
		for proc := range from.procs {
			if f, why := from.files.Get(proc, fd); why == api.OK {
				m.openAs(proc, fd, f)
			}
		}
	}
}

// openAs lets the process, which has no descriptor below fd, have that one.
func (m *Model) openAs(proc, fd int, f file.File) {
	for range fd + 1 {
		m.files.Open(proc, f.At, f.Flags)
	}
	for low := range fd {
		m.files.Close(proc, low)
	}
	m.files.Seek(proc, fd, f.Pos)
	m.world.T.Hold(f.At.Node)
}

// spareName answers a name that no Dir of the tree holds.
func spareName(t *tree.Tree) string {
	var taken []string
	for _, n := range t.Live() {
		taken = append(taken, t.Names(n)...)
	}
	i := 0
	for slices.Contains(taken, strconv.Itoa(i)) {
		i++
	}
	return strconv.Itoa(i)
}

// builder makes the nodes of one tree anew in another one, in which there is the root alone.
type builder struct {
	from, to *tree.Tree
	spare    string // a name that what has not come to its own yet has, one in each Dir at most
}

// makeNodes makes all nodes up to the number last, those that are live held. Dirs that have a name, which no call could give them later, each lie in the one that was made ahead of them; what else is live has none yet.
// There is room for each: those of lower numbers that are live were so, too, when it was made first.
func (b *builder) makeNodes(last int) {
	st, _ := b.from.Stat(rootNode)
	b.to.SetMode(rootNode, st.Mode)
	b.to.SetOwner(rootNode, st.Uid, st.Gid)
	dir := rootNode
	for n := rootNode + 1; n <= last; n++ {
		st, live := b.from.Stat(n)
		if !live {
			st.Kind = api.File
		}
		b.to.Make(dir, b.spare, st, b.from.Text(n))
		if live {
			b.to.Hold(n)
		}
		if st.Kind == api.Dir && st.Links > 0 {
			dir = n
		} else {
			b.to.Part(dir, b.spare)
		}
	}
}

// looseNodes lets the nodes be held no longer for being made.
func (b *builder) looseNodes() {
	for _, n := range b.from.Live() {
		if n != rootNode {
			b.to.Loose(n)
		}
	}
}

// giveNames lets all names be as they are, those of a Dir ahead of those of what it holds: what has come to its own name lies below nothing that has not, and so a Dir is never moved into itself.
func (b *builder) giveNames() {
	for dirs := []int{rootNode}; len(dirs) > 0; dirs = dirs[1:] {
		dir := dirs[0]
		for _, s := range b.from.Names(dir) {
			n, _ := b.from.Find(dir, s)
			if !isDir(b.from, n) {
				b.to.Join(dir, s, n)
				continue
			}
			b.makeRoom(dir)
			b.to.Move(b.to.Up(n), b.spare, dir, s)
			dirs = append(dirs, n)
		}
	}
}

// makeRoom lets the Dir take one more. If it is full, what has the spare name there is one too many, and goes to where nothing has it.
func (b *builder) makeRoom(dir int) {
	if st, _ := b.to.Stat(dir); st.Links == api.MaxLinks {
		b.to.Move(dir, b.spare, b.lowest(dir), b.spare)
	}
}

// lowest answers a Dir below dir, not by the spare name, that holds none.
func (b *builder) lowest(dir int) int {
	low := dir
	for n, there := b.below(dir, b.spare); there; n, there = b.below(n, "") {
		low = n
	}
	return low
}

// below answers the first Dir that dir holds by another name than that, and whether there is one.
func (b *builder) below(dir int, but string) (int, bool) {
	for _, s := range b.to.Names(dir) {
		if n, _ := b.to.Find(dir, s); s != but && isDir(b.to, n) {
			return n, true
		}
	}
	return 0, false
}

func isDir(t *tree.Tree, n int) bool {
	st, _ := t.Stat(n)
	return st.Kind == api.Dir
}

// write lets the File have its bytes and these blocks. What is no File has neither, and is refused a size.
func (b *builder) write(n int, has places) {
	st, _ := b.from.Stat(n)
	for at := 0; at < st.Size; at += api.BlockBytes {
		if has.has(at) {
			data, _ := b.from.Read(n, at, api.BlockBytes)
			b.to.Write(n, at, data)
		}
	}
	b.to.Cut(n, st.Size)
}
