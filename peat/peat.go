// Package peat: a heap in memory that outlives crashes: see DOC.md.
package peat

import (
	"cmp"
	"slices"

	"peat/api"
	"peat/layout"
	"peat/reach"
	"peat/room"
)

// Heap is an open heap.
type Heap struct {
	memory *api.Memory
	blocks map[layout.Place]int // how many words each has
}

// Words tells how many words a memory of so many chunks has (P3).
func Words(chunks int) (int, api.Errno) {
	words, ok := layout.Words(chunks)
	if !ok {
		return 0, api.ErrSize
	}
	return words, api.OK
}

// Format makes a memory into a heap without blocks (P3).
func Format(m *api.Memory) api.Errno {
	chunks, ok := layout.Chunks(m.Len())
	if !ok {
		return api.ErrSize
	}
	format(m, chunks)
	return api.OK
}

// Open opens a heap (P4).
func Open(m *api.Memory) (*Heap, api.Errno) {
	if !isHeap(m) {
		return nil, api.ErrBad
	}
	return &Heap{memory: m, blocks: reach.FromRoots(wordsOf(m))}, api.OK
}

// Alloc finds room for so many words (P5).
func (h *Heap) Alloc(words int) (int, api.Errno) {
	chunks, _ := layout.Chunks(h.memory.Len())
	if words < 1 || words > chunks*api.Chunk {
		return 0, api.ErrSize
	}
	block := layout.Fit(words)
	place, ok := room.Find(h.blocks, chunks, block)
	if !ok {
		return 0, api.ErrSpace
	}
	block.Place = place
	writeHeaders(h.memory, block)
	h.blocks[place] = block.Words
	return place.At(), api.OK
}

// Free gives a block back (P6).
func (h *Heap) Free(at int) api.Errno {
	block := h.blockOf(at)
	if block.Kind == layout.NoBlock || block.Place.At() != at {
		return api.ErrBlock
	}
	delete(h.blocks, block.Place)
	return api.OK
}

// Store writes a word of a block (P7).
func (h *Heap) Store(at int, v uint64) api.Errno {
	if h.blockOf(at).Kind == layout.NoBlock {
		return api.ErrBlock
	}
	h.memory.Store(at, v)
	return api.OK
}

// Load reads a word of a block (P7).
func (h *Heap) Load(at int) (uint64, api.Errno) {
	if h.blockOf(at).Kind == layout.NoBlock {
		return 0, api.ErrBlock
	}
	return h.memory.Load(at), api.OK
}

// Persist puts down words of a block (P7).
func (h *Heap) Persist(at int, words int) api.Errno {
	if words < 1 {
		return api.ErrSize
	}
	block := h.blockOf(at)
	// Held against what is left of the block, not added to at: the sum might wrap round.
	if block.Kind == layout.NoBlock || words > block.Place.At()+block.Words-at {
		return api.ErrBlock
	}
	putDown(h.memory, at, words)
	return api.OK
}

// SetRoot writes a root, and puts it down (P8).
func (h *Heap) SetRoot(root int, v uint64) api.Errno {
	if !isRoot(root) {
		return api.ErrRoot
	}
	writeRoot(h.memory, root, v)
	return api.OK
}

// Root reads a root (P8).
func (h *Heap) Root(root int) (uint64, api.Errno) {
	if !isRoot(root) {
		return 0, api.ErrRoot
	}
	return h.memory.Load(api.AtRoots + root), api.OK
}

// Blocks tells all blocks (P9).
func (h *Heap) Blocks() []api.Block {
	list := make([]api.Block, 0, len(h.blocks))
	for place, words := range h.blocks {
		list = append(list, api.Block{At: place.At(), Words: words})
	}
	slices.SortFunc(list, func(a, b api.Block) int { return cmp.Compare(a.At, b.At) })
	return list
}

func isRoot(root int) bool {
	return root >= 0 && root < api.Roots
}

// blockOf: the block that a word is in. The headers alone do not tell: they stay as they are when a block is given back, and those of chunks without blocks may say anything.
func (h *Heap) blockOf(at int) layout.Block {
	block := layout.BlockOf(headersOf(h.memory), uint64(at))
	if h.blocks[block.Place] != block.Words {
		return layout.Block{}
	}
	return block
}
