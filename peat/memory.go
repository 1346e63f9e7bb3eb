package peat

import (
	"peat/api"
	"peat/layout"
)

// format goes by three steps, each put down ahead of the next: Magic goes first and comes last, so that no memory that is a heap by its first words ever has roots and headers of which some are old and some are new.
func format(m *api.Memory, chunks int) {
	m.Store(api.AtMagic, 0)
	putDown(m, api.AtMagic, 1)
	for at := api.AtMagic + 1; at < api.FirstData; at++ {
		m.Store(at, 0)
	}
	m.Store(api.AtChunks, uint64(chunks))
	putDown(m, api.AtMagic, api.FirstData)
	m.Store(api.AtMagic, api.Magic)
	putDown(m, api.AtMagic, 1)
}

// writeHeaders makes the block's words belong to it. No other block hangs on the headers of its chunks, so that it does not matter which of them are put down when the power goes. All of the heap's headers are put down, not these alone: those of blocks that Open found may have been written only.
func writeHeaders(m *api.Memory, block layout.Block) {
	for i, header := range layout.Headers(block) {
		m.Store(api.AtHeaders+block.Place.Chunk+i, header)
	}
	putDown(m, api.AtHeaders, api.MaxChunks)
}

// writeRoot puts down all that stands ahead of the chunks, not the root alone: it leads to no block without Magic and the headers, and those that Open went by may have been written only.
func writeRoot(m *api.Memory, root int, v uint64) {
	m.Store(api.AtRoots+root, v)
	putDown(m, api.AtMagic, api.FirstData)
}

// putDown puts down the lines of so many words, one at least.
func putDown(m *api.Memory, at, words int) {
	for line := at / api.Line; line <= (at+words-1)/api.Line; line++ {
		m.Flush(line)
	}
	m.Fence()
}

func isHeap(m *api.Memory) bool {
	chunks, ok := layout.Chunks(m.Len())
	return ok && m.Load(api.AtMagic) == api.Magic && m.Load(api.AtChunks) == uint64(chunks)
}

func wordsOf(m *api.Memory) []uint64 {
	return loaded(m, api.AtMagic, m.Len())
}

func headersOf(m *api.Memory) []uint64 {
	chunks, _ := layout.Chunks(m.Len())
	return loaded(m, api.AtHeaders, chunks)
}

func loaded(m *api.Memory, at, words int) []uint64 {
	list := make([]uint64, words)
	for i := range list {
		list[i] = m.Load(at + i)
	}
	return list
}
