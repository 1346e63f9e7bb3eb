package peat_test

import (
	"math/rand"
	"slices"
	"testing"

	"peat/api"
	"peat/peat"
)

// leftBy: the blocks that an Open of what is left finds, and that heap.
func leftBy(t *testing.T, d []uint64) ([]api.Block, *peat.Heap) {
	t.Helper()
	h := mustOpen(t, api.NewMemory(d))
	if got, want := h.Blocks(), modelBlocks(d); !slices.Equal(got, want) {
		t.Fatalf("P10: Open of what is left finds %v, want %v", got, want)
	}
	return h.Blocks(), h
}

func TestDocumentExample3(t *testing.T) {
	for _, persist := range []bool{true, false} {
		for _, evict := range []bool{true, false} {
			m := api.NewMemory(heapWords(2, nil))
			h := mustOpen(t, m)
			a, b := mustAlloc(t, h, 3), mustAlloc(t, h, 17)
			small := []api.Block{{At: a, Words: 4}}
			both := withBlock(small, api.Block{At: b, Words: 32})
			h.Store(a, uint64(b))
			if evict {
				m.Plan(-1, []api.Evict{{Acts: 1, Line: a / api.Line}})
			}
			if persist && h.Persist(a, 1) != api.OK || h.SetRoot(0, uint64(a+1)) != api.OK {
				t.Fatalf("P7, P8: Persist or SetRoot was refused")
			}
			m.Plan(0, nil)
			want := small
			if persist || evict {
				want = both
			}
			if got, _ := leftBy(t, m.Image()); !slices.Equal(got, want) {
				t.Errorf("P10: persisted %t, put down of its own accord %t: %v, want %v", persist, evict, got, want)
			}
		}
	}
}

// push: a new node ahead of a list at root 0, of which the first word is what it holds, and the second points to the next.
func push(h *peat.Heap, v uint64) {
	at, e := h.Alloc(2)
	if e != api.OK {
		return
	}
	next, _ := h.Root(0)
	h.Store(at, v)
	h.Store(at+1, next)
	h.Persist(at, 2)
	h.SetRoot(0, uint64(at))
}

// pop: the first node is let go; the root is set ahead of Free, so that nothing that is put down points to it any more.
func pop(h *peat.Heap) {
	at, _ := h.Root(0)
	next, e := h.Load(int(at) + 1)
	if e != api.OK {
		return
	}
	h.SetRoot(0, next)
	h.Free(int(at))
}

// held: what the nodes of the list hold, the first one ahead.
func held(t *testing.T, h *peat.Heap) []uint64 {
	t.Helper()
	var list []uint64
	for at, _ := h.Root(0); at != 0; at, _ = h.Load(int(at) + 1) {
		v, e := h.Load(int(at))
		if e != api.OK {
			t.Fatalf("P10: node %d of the list: %d", at, e)
		}
		list = append(list, v)
	}
	return list
}

// A list that is grown and shrunk by one at a time: whenever the power goes, it is as it was ahead of the call or behind it, and no block is lost: there are just as many as nodes.
func TestP10AListWhileThePowerGoes(t *testing.T) {
	random := rand.New(rand.NewSource(14))
	for range 300 {
		m := api.NewMemory(heapWords(2, nil))
		h := mustOpen(t, m)
		var want []uint64
		for step := uint64(1); step < 60; step++ {
			before := want
			m.Plan(random.Intn(40), evictions(random, 40, 13))
			if random.Intn(3) > 0 {
				if push(h, step<<20); len(want) < 32 {
					want = append([]uint64{step << 20}, want...)
				}
			} else {
				pop(h)
				want = want[min(1, len(want)):]
			}
			if m.Gone() {
				m = api.NewMemory(m.Image())
				h = mustOpen(t, m)
				if slices.Equal(held(t, h), before) {
					want = before
				}
			}
			m.Plan(-1, nil)
			if got := held(t, h); !slices.Equal(got, want) || len(h.Blocks()) != len(want) {
				t.Fatalf("P10: the list is %v, want %v, of %v", got, want, h.Blocks())
			}
		}
	}
}
