package peat_test

import (
	"math/rand"
	"slices"
	"testing"

	"peat/api"
	"peat/peat"
)

// leftBy: the blocks that an Open of what is left finds, and that heap.
func leftBy(t *testing.T, m *api.Memory) ([]api.Block, *peat.Heap) {
	t.Helper()
	h := mustOpen(t, api.NewMemory(m.Image()))
	if got, want := h.Blocks(), modelBlocks(m.Image()); !slices.Equal(got, want) {
		t.Fatalf("P10: Open of what is left finds %v, want %v", got, want)
	}
	return h.Blocks(), h
}

func TestDocumentExample3(t *testing.T) {
	for _, persist := range []bool{true, false} {
		for _, evict := range []bool{true, false} {
			m := api.NewMemory(heapWords(2, nil))
			h := mustOpen(t, m)
			a, b := mustAlloc(t, h, 3), mustAlloc(t, h, 17)
			small := []api.Block{{At: a, Words: 4}}
			both := withBlock(small, api.Block{At: b, Words: 32})
			h.Store(a, uint64(b))
			if evict {
				m.Plan(-1, []api.Evict{{Acts: 1, Line: a / api.Line}})
			}
			if persist && h.Persist(a, 1) != api.OK || h.SetRoot(0, uint64(a+1)) != api.OK {
				t.Fatalf("P7, P8: Persist or SetRoot was refused")
			}
			m.Plan(0, nil)
			want := small
			if persist || evict {
				want = both
			}
			if got, _ := leftBy(t, m); !slices.Equal(got, want) {
				t.Errorf("P10: persisted %t, put down of its own accord %t: %v, want %v", persist, evict, got, want)
			}
		}
	}
}

// chain: a block of each of these sizes, each pointing by its last word into the midst of the next, all of them persisted, with a block that nothing points to behind each.
func chain(t *testing.T, h *peat.Heap, sizes []int) []api.Block {
	t.Helper()
	var list []api.Block
	for _, size := range sizes {
		b := api.Block{At: mustAlloc(t, h, size), Words: size}
		lost := api.Block{At: mustAlloc(t, h, size), Words: size}
		for _, each := range []api.Block{b, lost} {
			writeAll(t, h, each, 1<<40)
			if e := h.Persist(each.At, each.Words); e != api.OK {
				t.Fatalf("P7: Persist of %v: %d", each, e)
			}
		}
		list = append(list, b)
	}
	for i, b := range list[1:] {
		last := list[i].At + list[i].Words - 1
		h.Store(last, uint64(b.At+b.Words/2))
		if e := h.Persist(last, 1); e != api.OK {
			t.Fatalf("P7: Persist(%d, 1): %d", last, e)
		}
	}
	return list
}

func TestP10WhatARootPointsTo(t *testing.T) {
	sizes := []int{2, 4, 8, 16, 32, 64, 96}
	random := rand.New(rand.NewSource(13))
	for r := range 40 {
		random.Shuffle(len(sizes), func(i, j int) { sizes[i], sizes[j] = sizes[j], sizes[i] })
		m := api.NewMemory(heapWords(16, nil))
		h := mustOpen(t, m)
		list := chain(t, h, sizes)
		if e := h.SetRoot(r%8, uint64(list[0].At+1)); e != api.OK {
			t.Fatalf("P8: SetRoot: %d", e)
		}
		now := nowOf(m)
		m.Plan(0, nil)
		want := slices.Clone(list)
		slices.SortFunc(want, func(a, b api.Block) int { return a.At - b.At })
		got, left := leftBy(t, m)
		if !slices.Equal(got, want) {
			t.Fatalf("P10: Open of what is left finds %v, want %v", got, want)
		}
		for _, b := range want {
			for at := b.At; at < b.At+b.Words; at++ {
				if v, e := left.Load(at); v != now[at] || e != api.OK {
					t.Fatalf("P10: word %d is %d, %d, want %d", at, v, e, now[at])
				}
			}
		}
		givenOutAgain(t, left, want)
	}
}

// givenOutAgain: all that is not come to has room for new blocks.
func givenOutAgain(t *testing.T, h *peat.Heap, blocks []api.Block) {
	t.Helper()
	for _, words := range []int{96, 64, 32, 16, 8, 4, 2} {
		for {
			room, want := modelRoom(blocks, 16, words)
			at, e := h.Alloc(words)
			if e != want {
				t.Fatalf("P10: Alloc(%d): %d, want %d, beside %v", words, e, want, blocks)
			}
			if e != api.OK {
				break
			}
			b := api.Block{At: at, Words: words}
			if !slices.Contains(room, b) {
				t.Fatalf("P10: Alloc(%d) = %d, beside %v", words, at, blocks)
			}
			blocks = withBlock(blocks, b)
		}
	}
}

// push: a new node ahead of a list at root 0, of which the first word is what it holds, and the second points to the next.
func push(h *peat.Heap, v uint64) {
	at, e := h.Alloc(2)
	if e != api.OK {
		return
	}
	next, _ := h.Root(0)
	h.Store(at, v)
	h.Store(at+1, next)
	h.Persist(at, 2)
	h.SetRoot(0, uint64(at))
}

// pop: the first node is let go; the root is set ahead of Free, so that nothing that is put down points to it any more.
func pop(h *peat.Heap) {
	at, _ := h.Root(0)
	next, e := h.Load(int(at) + 1)
	if e != api.OK {
		return
	}
	h.SetRoot(0, next)
	h.Free(int(at))
}

// held: what the nodes of the list hold, the first one ahead.
func held(t *testing.T, h *peat.Heap) []uint64 {
	t.Helper()
	var list []uint64
	for at, _ := h.Root(0); at != 0; at, _ = h.Load(int(at) + 1) {
		v, e := h.Load(int(at))
		if e != api.OK {
			t.Fatalf("P10: node %d of the list: %d", at, e)
		}
		list = append(list, v)
	}
	return list
}

// A list that is grown and shrunk by one at a time: whenever the power goes, it is as it was ahead of the call or behind it, and no block is lost: there are just as many as nodes.
func TestP10AListWhileThePowerGoes(t *testing.T) {
	random := rand.New(rand.NewSource(14))
	for range 300 {
		m := api.NewMemory(heapWords(2, nil))
		h := mustOpen(t, m)
		var want []uint64
		for step := uint64(1); step < 60; step++ {
			before := want
			m.Plan(random.Intn(40), evictions(random, 40, 13))
			if random.Intn(3) > 0 {
				if push(h, step<<20); len(want) < 32 {
					want = append([]uint64{step << 20}, want...)
				}
			} else {
				pop(h)
				want = want[min(1, len(want)):]
			}
			if m.Gone() {
				m = api.NewMemory(m.Image())
				h = mustOpen(t, m)
				if slices.Equal(held(t, h), before) {
					want = before
				}
			}
			m.Plan(-1, nil)
			if got := held(t, h); !slices.Equal(got, want) || len(h.Blocks()) != len(want) {
				t.Fatalf("P10: the list is %v, want %v, of %v", got, want, h.Blocks())
			}
		}
	}
}
