package model

import (
	"math/bits"

	"warren/api"
)

// places says which blocks a File has: bit k is of the one from k times BlockBytes on. A File of MaxSize has just as many as there are bits.
type places uint64

// ahead answers all blocks that have a byte ahead of end.
func ahead(end int) places {
	return places(1)<<((end+api.BlockBytes-1)/api.BlockBytes) - 1
}

// between answers all blocks that have a byte from at on, ahead of end.
func between(at, end int) places {
	return ahead(end) &^ ahead(at/api.BlockBytes*api.BlockBytes)
}

func (p places) count() int { return bits.OnesCount64(uint64(p)) }

// has tells whether the byte at the place lies in one of them.
func (p places) has(at int) bool { return p&between(at, at+1) != 0 }
