package peat

import (
	"peat/api"
	"peat/layout"
)

// format goes by three steps, each put down ahead of the next: Magic goes first and comes last, so that no memory that is a heap by its first words ever has roots and headers of which some are old and some are new.
func format(m *api.Memory, chunks int) {
	m.Store(api.AtMagic, 0)
	putDown(m, api.AtMagic, 1)
	for at := api.AtMagic + 1; at < api.FirstData; at++ {
		m.Store(at, 0)
	}
	m.Store(api.AtChunks, uint64(chunks))
	putDown(m, api.AtMagic, api.FirstData)
	m.Store(api.AtMagic, api.Magic)
	putDown(m, api.AtMagic, 1)
}

// putDown puts down the lines of so many words, one at least.
func putDown(m *api.Memory, at, words int) {
	for line := at / api.Line; line <= (at+words-1)/api.Line; line++ {
		m.Flush(line)
	}
	m.Fence()
}

func isHeap(m *api.Memory) bool {
	chunks, ok := layout.Chunks(m.Len())
	return ok && m.Load(api.AtMagic) == api.Magic && m.Load(api.AtChunks) == uint64(chunks)
}

func wordsOf(m *api.Memory) []uint64 {
	words := make([]uint64, m.Len())
	for at := range words {
		words[at] = m.Load(at)
	}
	return words
}
