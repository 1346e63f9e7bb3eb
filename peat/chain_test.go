package peat_test

import (
	"math/rand"
	"slices"
	"testing"

	"peat/api"
)

// chain: blocks each of which leads to the next by a word that was persisted, from a root that was set.
type chain struct {
	root   int
	blocks []api.Block
	words  map[int]uint64 // those that were persisted, by their numbers
}

var chainSizes = []int{2, 2, 4, 4, 8, 16, 32, 64}

// newChain: a block of each size in any order, each with one of the same size behind it that nothing leads to. These are told too.
func newChain(w *walker) (chain, []api.Block) {
	w.t.Helper()
	c := chain{root: w.random.Intn(api.Roots), words: map[int]uint64{}}
	var lost []api.Block
	for _, i := range w.random.Perm(len(chainSizes)) {
		size := chainSizes[i]
		c.blocks = append(c.blocks, api.Block{At: w.alloc(size), Words: size})
		lost = append(lost, api.Block{At: w.alloc(size), Words: size})
	}
	next := uint64(1 << 40)
	for _, b := range slices.Backward(c.blocks) {
		c.link(w, b, next)
		next = uint64(b.At + w.random.Intn(b.Words))
	}
	w.setRoot(c.root, next)
	return c, lost
}

// link: any word of the block is the number; some words on both sides of it are persisted with it, and others are not.
func (c chain) link(w *walker, b api.Block, next uint64) {
	w.t.Helper()
	for at := b.At; at < b.At+b.Words; at++ {
		w.store(at, uint64(at)<<40)
	}
	at := b.At + w.random.Intn(b.Words)
	w.store(at, next)
	from := b.At + w.random.Intn(at-b.At+1)
	to := at + w.random.Intn(b.At+b.Words-at)
	w.persist(from, to-from+1)
	for i := from; i <= to; i++ {
		c.words[i] = w.words[i]
	}
}

// check: the chain is found in what is left.
func (c chain) check(t *testing.T, d []uint64) {
	t.Helper()
	found, h := leftBy(t, d)
	for _, b := range c.blocks {
		if !slices.Contains(found, b) {
			t.Fatalf("P10: %v is lost: Open finds %v", b, found)
		}
	}
	for at, v := range c.words {
		if got, e := h.Load(at); got != v || e != api.OK {
			t.Fatalf("P10: word %d is %d, %d, want %d", at, got, e, v)
		}
	}
}

// usedWalker: a heap whose blocks have all been given back; its words, headers and roots are as they were left.
func usedWalker(t *testing.T, random *rand.Rand, chunks int) *walker {
	t.Helper()
	w := newWalker(t, random, heapWords(chunks, nil))
	for range random.Intn(40) {
		w.step()
	}
	for _, b := range w.blocks {
		w.free(b.At)
	}
	return w
}

// disturb: a block that shares a line with this one is written, persisted or given back, or given out if it is none.
func (w *walker) disturb(b api.Block) {
	w.t.Helper()
	at := b.At - b.At%api.Line + w.random.Intn(api.Line)
	switch {
	case modelIn(w.apart, at):
		w.persist(at, 1)
	case !modelIn(w.blocks, at):
		w.alloc(b.Words)
	default:
		w.store(at, w.value())
		if w.random.Intn(2) == 0 {
			w.persist(at, 1)
		}
		if w.random.Intn(2) == 0 {
			w.free(at - at%b.Words)
		}
	}
}

// A chain is found whatever else is done, in all the lives of its heap, the power going at any act.
func TestP10AChainStays(t *testing.T) {
	random := rand.New(rand.NewSource(13))
	for range 400 {
		w := usedWalker(t, random, 10+random.Intn(7))
		c, _ := newChain(w)
		w.m.Plan(random.Intn(150), evictions(random, 150, len(w.words)/8+1))
		for range 6 {
			w.apart, w.apartRoot = c.blocks, c.root
			for !w.m.Gone() {
				w.disturb(c.blocks[random.Intn(len(c.blocks))])
				w.step()
			}
			d := w.m.Image()
			w.checkLeft(d)
			c.check(t, d)
			w = openWalker(t, random, planned(random, d, random.Intn(150)))
		}
	}
}

// What is not come to is given out again, all of it: first in blocks of one size, as many as there is room for, then in others until nothing is left. The chain stays, also when all else is written full and persisted.
func TestP10WhatIsNotComeTo(t *testing.T) {
	random := rand.New(rand.NewSource(18))
	for _, words := range []int{2, 4, 8, 16, 32, 64, 96, 128} {
		for range 10 {
			w := newWalker(t, random, heapWords(10+random.Intn(7), nil))
			c, lost := newChain(w)
			w.m.Plan(0, nil)
			d := w.m.Image()
			if found, _ := leftBy(t, d); !slices.Equal(found, rising(c.blocks)) {
				t.Fatalf("P10: Open of what is left finds %v, want %v", found, c.blocks)
			}
			w = newWalker(t, random, d)
			givenOut(w, words)
			for _, b := range lost {
				if b.Words == words && !slices.Contains(w.blocks, b) {
					t.Errorf("P10: %v is not given out again", b)
				}
			}
			for _, other := range []int{64, 16, 8, 4, 2, 32} {
				givenOut(w, other)
			}
			isFull(w)
			overwrite(w, c)
			c.check(t, w.m.Image())
		}
	}
}

// givenOut: as many blocks of one size as there is room for.
func givenOut(w *walker, words int) {
	w.t.Helper()
	for w.alloc(words) != 0 {
	}
}

// isFull: every word of the heap is in a block.
func isFull(w *walker) {
	w.t.Helper()
	words := 0
	for _, b := range w.h.Blocks() {
		words += b.Words
	}
	if words != len(w.words)-api.FirstData {
		w.t.Errorf("P10: only %d words of %d are given out again", words, len(w.words)-api.FirstData)
	}
}

// overwrite: all blocks but the chain's.
func overwrite(w *walker, c chain) {
	w.t.Helper()
	for _, b := range w.blocks {
		if slices.Contains(c.blocks, b) {
			continue
		}
		for at := b.At; at < b.At+b.Words; at++ {
			w.store(at, uint64(c.blocks[0].At))
		}
		w.persist(b.At, b.Words)
	}
}
