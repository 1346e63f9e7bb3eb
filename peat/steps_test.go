package peat_test

import (
	"math/rand"
	"slices"
	"testing"

	"peat/api"
)

// Several heaps are walked side by side: none disturbs another (P2).
func TestP5ToP9Steps(t *testing.T) {
	random := rand.New(rand.NewSource(8))
	for range 60 {
		walkers := []*walker{newWalker(t, random, someHeap(random)), newWalker(t, random, someHeap(random)), newWalker(t, random, someHeap(random))}
		for range 400 {
			w := walkers[random.Intn(len(walkers))]
			w.step()
			w.check()
		}
	}
}

// One walk has one outcome, to the act.
func TestP2OneOutcome(t *testing.T) {
	for seed := range int64(20) {
		var first *walker
		for range 5 {
			random := rand.New(rand.NewSource(seed))
			w := newWalker(t, random, someHeap(random))
			for range 150 {
				w.step()
			}
			if first == nil {
				first = w
			}
			if !slices.Equal(w.h.Blocks(), first.h.Blocks()) || !slices.Equal(nowOf(w.m), nowOf(first.m)) || !slices.Equal(w.m.Image(), first.m.Image()) {
				t.Fatalf("P2: one walk, two outcomes: %v and %v", w.h.Blocks(), first.h.Blocks())
			}
		}
	}
}

// Behind the power's going no call panics, and all end; nothing more is put down.
func TestP1CallsBehindThePower(t *testing.T) {
	random := rand.New(rand.NewSource(10))
	for range 300 {
		words := someHeap(random)
		m := api.NewMemory(words)
		h := mustOpen(t, m)
		m.Plan(random.Intn(6), nil)
		for range 200 {
			h.Alloc(random.Intn(100) - 2)
			at := random.Intn(len(words)+20) - 10
			h.Store(at, random.Uint64())
			h.Load(at)
			h.Persist(at, random.Intn(20)-2)
			h.SetRoot(random.Intn(10)-1, random.Uint64())
			if random.Intn(3) == 0 {
				h.Free(at)
			}
			h.Blocks()
			h.Root(random.Intn(10) - 1)
		}
	}
}
