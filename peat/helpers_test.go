package peat_test

import (
	"slices"
	"testing"

	"peat/api"
	"peat/peat"
)

// heapWords: a heap of so many chunks, with some words set over it.
func heapWords(chunks int, set map[int]uint64) []uint64 {
	words := make([]uint64, api.FirstData+chunks*api.Chunk)
	words[api.AtMagic], words[api.AtChunks] = api.Magic, uint64(chunks)
	for at, v := range set {
		words[at] = v
	}
	return words
}

// filled: so many words, each of them v.
func filled(words int, v uint64) []uint64 {
	return slices.Repeat([]uint64{v}, words)
}

// nowOf: a memory's words as Load tells them.
func nowOf(m *api.Memory) []uint64 {
	words := make([]uint64, m.Len())
	for at := range words {
		words[at] = m.Load(at)
	}
	return words
}

func mustOpen(t *testing.T, m *api.Memory) *peat.Heap {
	t.Helper()
	h, e := peat.Open(m)
	if h == nil || e != api.OK {
		t.Fatalf("P4: Open = %v, %d", h, e)
	}
	return h
}

// rootsOf: what Root answers for each root.
func rootsOf(t *testing.T, h *peat.Heap) []uint64 {
	t.Helper()
	var roots []uint64
	for r := range api.Roots {
		v, e := h.Root(r)
		if e != api.OK {
			t.Fatalf("P8: Root(%d): %d", r, e)
		}
		roots = append(roots, v)
	}
	return roots
}

// spoil: a list is written full, up to its spare room.
func spoil(list []api.Block) {
	list = list[:cap(list)]
	for i := range list {
		list[i] = api.Block{At: -1, Words: -1}
	}
}

// untouched: runs a call that must do no act at all.
func untouched(t *testing.T, m *api.Memory, call func()) {
	t.Helper()
	m.Plan(1, nil)
	call()
	if m.Gone() {
		t.Errorf("P1: an act was done")
	}
	m.Plan(-1, nil)
}

// eachCrash: a call on a new memory each time, the power going behind 0, 1, 2 .. acts of it, until it is over ahead of that.
func eachCrash(start func() *api.Memory, evicts []api.Evict, call func(*api.Memory), check func(left int, m *api.Memory)) {
	for left := 0; ; left++ {
		m := start()
		m.Plan(left, evicts)
		call(m)
		check(left, m)
		if !m.Gone() {
			return
		}
	}
}
