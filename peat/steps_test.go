package peat_test

import (
	"math/rand"
	"slices"
	"testing"

	"peat/api"
	"peat/peat"
)

// walker: a heap, and what the document says of it behind each step.
type walker struct {
	t      *testing.T
	random *rand.Rand
	m      *api.Memory
	h      *peat.Heap
	blocks []api.Block
	words  []uint64
}

func newWalker(t *testing.T, random *rand.Rand) *walker {
	t.Helper()
	words := someHeap(random)
	m := api.NewMemory(words)
	return &walker{t: t, random: random, m: m, h: mustOpen(t, m), blocks: modelBlocks(words), words: slices.Clone(words)}
}

// number: mostly a word of a block, often its first.
func (w *walker) number() int {
	if len(w.blocks) == 0 || w.random.Intn(4) == 0 {
		return w.random.Intn(len(w.words)+20) - 10
	}
	b := w.blocks[w.random.Intn(len(w.blocks))]
	return b.At + w.random.Intn(b.Words)*w.random.Intn(2)
}

func (w *walker) step() {
	w.t.Helper()
	switch w.random.Intn(5) {
	case 0, 1:
		w.alloc([]int{1, 3, 5, 12, 16, 17, 32, 33, 70, w.random.Intn(520) - 4}[w.random.Intn(10)])
	case 2:
		w.free(w.number())
	case 3:
		w.store(w.number(), someNumber(w.random, len(w.words)))
	case 4:
		w.load(w.number())
	}
}

func (w *walker) alloc(words int) {
	w.t.Helper()
	room, want := modelRoom(w.blocks, len(w.words)/32-1, words)
	at, e := w.h.Alloc(words)
	if e != want || e != api.OK && at != 0 {
		w.t.Fatalf("P5: Alloc(%d) = %d, %d, want %d, beside %v", words, at, e, want, w.blocks)
	}
	if e != api.OK {
		return
	}
	b := api.Block{At: at, Words: room[0].Words}
	if !slices.Contains(room, b) {
		w.t.Fatalf("P5: Alloc(%d) = %d, want one of %v", words, at, room)
	}
	w.blocks = withBlock(w.blocks, b)
}

func (w *walker) free(at int) {
	w.t.Helper()
	want := api.ErrBlock
	if modelBegins(w.blocks, at) {
		want = api.OK
	}
	if e := w.h.Free(at); e != want {
		w.t.Fatalf("P6: Free(%d): %d, want %d, of %v", at, e, want, w.blocks)
	}
	w.blocks = slices.DeleteFunc(slices.Clone(w.blocks), func(b api.Block) bool { return b.At == at })
}

func (w *walker) store(at int, v uint64) {
	w.t.Helper()
	want := api.ErrBlock
	if modelIn(w.blocks, at) {
		want = api.OK
		w.words[at] = v
	}
	if e := w.h.Store(at, v); e != want {
		w.t.Fatalf("P7: Store(%d): %d, want %d, of %v", at, e, want, w.blocks)
	}
}

func (w *walker) load(at int) {
	w.t.Helper()
	want, v := api.ErrBlock, uint64(0)
	if modelIn(w.blocks, at) {
		want, v = api.OK, w.words[at]
	}
	if got, e := w.h.Load(at); got != v || e != want {
		w.t.Fatalf("P7: Load(%d) = %d, %d, want %d, %d, of %v", at, got, e, v, want, w.blocks)
	}
}

// check: all that is to be seen is as the document says; the list that came out is written into, so that a later answer would tell if it were kept.
func (w *walker) check() {
	w.t.Helper()
	list := w.h.Blocks()
	isWhole(w.t, w.m, w.h, w.blocks)
	for i := range list[:cap(list)] {
		list[:cap(list)][i] = api.Block{At: -1, Words: -1}
	}
	now := nowOf(w.m)
	if !slices.Equal(now[32:], w.words[32:]) || !slices.Equal(now[:16], w.words[:16]) {
		w.t.Fatalf("P4: the words are %v, want %v but for the headers", now, w.words)
	}
}

// Several heaps are walked side by side: none disturbs another (P2).
func TestP5P6P7P9Steps(t *testing.T) {
	random := rand.New(rand.NewSource(8))
	for range 60 {
		walkers := []*walker{newWalker(t, random), newWalker(t, random), newWalker(t, random)}
		for range 400 {
			w := walkers[random.Intn(len(walkers))]
			w.step()
			w.check()
		}
	}
}

// The power goes somewhere in a walk: whatever blocks there were ahead of the call in which it went are whole in what is left.
func TestP5StepsWhileThePowerGoes(t *testing.T) {
	random := rand.New(rand.NewSource(9))
	for range 2000 {
		w := newWalker(t, random)
		w.m.Plan(random.Intn(100), evictions(random, 100))
		blocks := w.blocks
		for !w.m.Gone() {
			blocks = w.blocks
			w.step()
		}
		d := w.m.Image()
		blocks = slices.DeleteFunc(slices.Clone(blocks), func(b api.Block) bool { return !slices.Contains(w.blocks, b) })
		if !modelWhole(d, blocks) {
			t.Fatalf("P5: the headers that are left are %v, the blocks %v", d[16:32], blocks)
		}
		if got := mustOpen(t, api.NewMemory(d)).Blocks(); !slices.Equal(got, modelBlocks(d)) {
			t.Fatalf("P4: Open of what is left finds %v, want %v", got, modelBlocks(d))
		}
	}
}

// One walk has one outcome, to the act.
func TestP2OneOutcome(t *testing.T) {
	for seed := range int64(20) {
		var first *walker
		for range 5 {
			random := rand.New(rand.NewSource(seed))
			w := newWalker(t, random)
			for range 150 {
				w.step()
			}
			if first == nil {
				first = w
			}
			if !slices.Equal(w.h.Blocks(), first.h.Blocks()) || !slices.Equal(nowOf(w.m), nowOf(first.m)) || !slices.Equal(w.m.Image(), first.m.Image()) {
				t.Fatalf("P2: one walk, two outcomes: %v and %v", w.h.Blocks(), first.h.Blocks())
			}
		}
	}
}

// Behind the power's going no call panics, and all end; nothing more is put down.
func TestP1CallsBehindThePower(t *testing.T) {
	random := rand.New(rand.NewSource(10))
	for range 300 {
		words := someHeap(random)
		m := api.NewMemory(words)
		h := mustOpen(t, m)
		m.Plan(random.Intn(6), nil)
		for range 200 {
			h.Alloc(random.Intn(100) - 2)
			at := random.Intn(len(words)+20) - 10
			h.Store(at, random.Uint64())
			h.Load(at)
			if random.Intn(3) == 0 {
				h.Free(at)
			}
			h.Blocks()
			h.Root(random.Intn(10) - 1)
		}
	}
}
