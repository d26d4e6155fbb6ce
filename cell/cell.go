// Package cell: shared words: see doc/01-cell.md.
package cell

import (
	"iter"

	"warren/api"
)

// Kinds of accesses.
const (
	Load = 1 + iota
	Store
	Swap
)

// Access tells of one access what the cell held (Old) and holds now (New); Done is Swap's answer, and true of the other kinds.
type Access struct {
	Kind, At int
	Old, New int64
	Done     bool
}

// Memory is a row of cells. Of the accesses it keeps their number and the last one alone: that is all it is ever asked for.
type Memory struct {
	words []int64
	steps int
	last  Access
}

// New makes a memory of n cells that all hold 0.
func New(n int) (*Memory, api.Errno) {
	if n < 1 || n > api.MaxCells {
		return nil, api.ErrArg
	}
	return &Memory{words: make([]int64, n)}, api.OK
}

// Load answers what the cell holds.
func (m *Memory) Load(at int) (int64, api.Errno) {
	made, why := m.access(Access{Kind: Load, At: at})
	return made.New, why
}

// Store lets the cell hold v.
func (m *Memory) Store(at int, v int64) api.Errno {
	_, why := m.access(Access{Kind: Store, At: at, New: v})
	return why
}

// Swap lets the cell hold next if it holds old, and tells whether it did.
func (m *Memory) Swap(at int, old, next int64) (bool, api.Errno) {
	made, why := m.access(Access{Kind: Swap, At: at, Old: old, New: next})
	return made.Done, why
}

// Steps answers how many accesses were not refused.
func (m *Memory) Steps() int { return m.steps }

// Last answers the last access that was not refused, zero ahead of the first.
func (m *Memory) Last() Access { return m.last }

// Words answers what all cells hold, in memory that is the caller's.
func (m *Memory) Words() []int64 {
	words := make([]int64, len(m.words))
	copy(words, m.words)
	return words
}

// access makes the one access that is asked for; what play passes over was refused.
func (m *Memory) access(asked Access) (Access, api.Errno) {
	made, why := Access{}, api.ErrArg
	for a := range m.play(asked) {
		made, why = a, api.OK
	}
	return made, why
}

// play goes through the accesses that are asked for: it makes one behind the other and yields each as it was made. One whose cell is not there is passed over, so that it is no step.
func (m *Memory) play(asked ...Access) iter.Seq[Access] {
	return func(yield func(Access) bool) {
		for _, a := range asked {
			if !m.has(a.At) {
				continue
			}
			m.step(a)
			if !yield(m.last) {
				return
			}
		}
	}
}

func (m *Memory) has(at int) bool { return at >= 0 && at < len(m.words) }

// step is the one place at which cells, count and last access change, so that they can't come apart.
func (m *Memory) step(asked Access) {
	m.last = settle(asked, m.words[asked.At])
	m.words[asked.At] = m.last.New
	m.steps++
}

// settle tells what comes of an access whose cell holds held. In asked, Old is what a Swap looks for and New what a Store or a Swap puts there.
func settle(asked Access, held int64) Access {
	made := Access{Kind: asked.Kind, At: asked.At, Old: held, New: held, Done: true}
	switch asked.Kind {
	case Store:
		made.New = asked.New
	case Swap:
		made.Done = held == asked.Old
		if made.Done {
			made.New = asked.New
		}
	}
	return made
}
