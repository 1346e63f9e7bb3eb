package peat_test

import (
	"math/rand"
	"slices"
	"testing"

	"peat/api"
	"peat/peat"
)

// walker: a heap, and what the document says of it behind each step.
type walker struct {
	t      *testing.T
	random *rand.Rand
	m      *api.Memory
	h      *peat.Heap
	blocks []api.Block
	words  []uint64
	loose  []bool // the words that were written and not persisted or set since
}

func newWalker(t *testing.T, random *rand.Rand, words []uint64) *walker {
	t.Helper()
	m := api.NewMemory(words)
	return &walker{t: t, random: random, m: m, h: mustOpen(t, m), blocks: modelBlocks(words), words: slices.Clone(words), loose: make([]bool, len(words))}
}

// number: mostly a word of a block, often its first.
func (w *walker) number() int {
	if len(w.blocks) == 0 || w.random.Intn(4) == 0 {
		return w.random.Intn(len(w.words)+20) - 10
	}
	b := w.blocks[w.random.Intn(len(w.blocks))]
	return b.At + w.random.Intn(b.Words)*w.random.Intn(2)
}

func (w *walker) step() {
	w.t.Helper()
	switch w.random.Intn(9) {
	case 0, 1:
		w.alloc([]int{1, 3, 5, 12, 16, 17, 32, 33, 70, w.random.Intn(520) - 4}[w.random.Intn(10)])
	case 2:
		w.free(w.number())
	case 3, 4:
		w.store(w.number(), w.value())
	case 5:
		w.load(w.number())
	case 6, 7:
		w.persist(w.number(), []int{1, 1, 2, 4, 8, 16, w.random.Intn(70) - 2}[w.random.Intn(7)])
	case 8:
		w.setRoot(w.random.Intn(10)-1, w.value())
	}
}

// value: mostly a word of a block.
func (w *walker) value() uint64 {
	if w.random.Intn(3) == 0 {
		return someNumber(w.random, len(w.words))
	}
	return uint64(w.number())
}

// is: a call's answer; what it is when the power has gone is not said.
func (w *walker) is(call string, at int, got, want api.Errno) {
	w.t.Helper()
	if got != want && !w.m.Gone() {
		w.t.Fatalf("%s of %d: %d, want %d, of %v", call, at, got, want, w.blocks)
	}
}

// inBlock: what a call answers that asks for a word of a block.
func (w *walker) inBlock(at int) api.Errno {
	if modelIn(w.blocks, at) {
		return api.OK
	}
	return api.ErrBlock
}

func (w *walker) alloc(words int) {
	w.t.Helper()
	room, want := modelRoom(w.blocks, len(w.words)/32-1, words)
	at, e := w.h.Alloc(words)
	w.is("P5: Alloc", words, e, want)
	if want != api.OK && at != 0 && !w.m.Gone() {
		w.t.Fatalf("P5: Alloc(%d) = %d, %d", words, at, e)
	}
	if want != api.OK || w.m.Gone() {
		return
	}
	b := api.Block{At: at, Words: room[0].Words}
	if !slices.Contains(room, b) {
		w.t.Fatalf("P5: Alloc(%d) = %d, want one of %v", words, at, room)
	}
	w.blocks = withBlock(w.blocks, b)
}

func (w *walker) free(at int) {
	w.t.Helper()
	want := api.ErrBlock
	if modelBegins(w.blocks, at) {
		want = api.OK
	}
	w.is("P6: Free", at, w.h.Free(at), want)
	w.blocks = slices.DeleteFunc(slices.Clone(w.blocks), func(b api.Block) bool { return b.At == at })
}

func (w *walker) store(at int, v uint64) {
	w.t.Helper()
	want := w.inBlock(at)
	if want == api.OK {
		w.words[at], w.loose[at] = v, true
	}
	w.is("P7: Store", at, w.h.Store(at, v), want)
}

func (w *walker) load(at int) {
	w.t.Helper()
	want, v := w.inBlock(at), uint64(0)
	if want == api.OK {
		v = w.words[at]
	}
	got, e := w.h.Load(at)
	w.is("P7: Load", at, e, want)
	if got != v && !w.m.Gone() {
		w.t.Fatalf("P7: Load(%d) = %d, want %d, of %v", at, got, v, w.blocks)
	}
}

func (w *walker) persist(at, words int) {
	w.t.Helper()
	want := modelPersist(w.blocks, at, words)
	w.is("P7: Persist", at, w.h.Persist(at, words), want)
	for i := 0; want == api.OK && i < words && !w.m.Gone(); i++ {
		w.loose[at+i] = false
	}
}

func (w *walker) setRoot(root int, v uint64) {
	w.t.Helper()
	want := api.ErrRoot
	if root >= 0 && root < 8 {
		want = api.OK
	}
	w.is("P8: SetRoot", root, w.h.SetRoot(root, v), want)
	if want == api.OK {
		w.words[8+root], w.loose[8+root] = v, w.m.Gone()
	}
}

// kept: the blocks that are come to from roots by words, none of which is loose: these are found again whatever happens. It also tells how many of them no root points to.
func (w *walker) kept() ([]api.Block, int) {
	var list []api.Block
	come := func(from, words int) {
		for at := from; at < from+words; at++ {
			if w.loose[at] {
				continue
			}
			for _, b := range w.blocks {
				if v := w.words[at]; v >= uint64(b.At) && v < uint64(b.At+b.Words) && !slices.Contains(list, b) {
					list = append(list, b)
				}
			}
		}
	}
	come(8, 8)
	pointed := len(list)
	for i := 0; i < len(list); i++ {
		come(list[i].At, list[i].Words)
	}
	return list, len(list) - pointed
}

// check: all that is to be seen is as the document says; the list that came out is written into, so that a later answer would tell if it were kept.
func (w *walker) check() {
	w.t.Helper()
	list := w.h.Blocks()
	isWhole(w.t, w.m, w.h, w.blocks)
	for i := range list[:cap(list)] {
		list[:cap(list)][i] = api.Block{At: -1, Words: -1}
	}
	now, down := nowOf(w.m), w.m.Image()
	if !slices.Equal(now[32:], w.words[32:]) || !slices.Equal(now[:16], w.words[:16]) {
		w.t.Fatalf("P4: the words are %v, want %v but for the headers", now, w.words)
	}
	if !slices.Equal(down[:16], w.words[:16]) || !slices.Equal(rootsOf(w.t, w.h), w.words[8:16]) {
		w.t.Fatalf("P8: the roots are %v, put down %v, want %v", rootsOf(w.t, w.h), down[8:16], w.words[8:16])
	}
	for at := 32; at < len(down); at++ {
		if !w.loose[at] && down[at] != w.words[at] {
			w.t.Fatalf("P7: %d is put down in word %d, want %d", down[at], at, w.words[at])
		}
	}
}

// Several heaps are walked side by side: none disturbs another (P2).
func TestP5ToP9Steps(t *testing.T) {
	random := rand.New(rand.NewSource(8))
	for range 60 {
		walkers := []*walker{newWalker(t, random, someHeap(random)), newWalker(t, random, someHeap(random)), newWalker(t, random, someHeap(random))}
		for range 400 {
			w := walkers[random.Intn(len(walkers))]
			w.step()
			w.check()
		}
	}
}

// walkUntilThePowerGoes: what is left, once the walk's last call has been cut off.
func (w *walker) walkUntilThePowerGoes() []uint64 {
	w.t.Helper()
	w.m.Plan(w.random.Intn(150), evictions(w.random, 150, len(w.words)/8+1))
	for !w.m.Gone() {
		w.step()
	}
	return w.m.Image()
}

// checkLeft: what is left when the power has gone is as the document says.
func (w *walker) checkLeft(d []uint64) int {
	w.t.Helper()
	if !modelWhole(d, w.blocks) {
		w.t.Fatalf("P5: the headers that are left are %v, the blocks %v", d[16:32], w.blocks)
	}
	h := mustOpen(w.t, api.NewMemory(d))
	found := h.Blocks()
	if !slices.Equal(found, modelBlocks(d)) {
		w.t.Fatalf("P4: Open of what is left finds %v, want %v", found, modelBlocks(d))
	}
	kept, behind := w.kept()
	for _, b := range kept {
		if !slices.Contains(found, b) {
			w.t.Fatalf("P10: %v is lost: Open finds %v", b, found)
		}
		for at := b.At; at < b.At+b.Words; at++ {
			if v, e := h.Load(at); !w.loose[at] && (v != w.words[at] || e != api.OK) {
				w.t.Fatalf("P10: word %d is %d, %d, want %d", at, v, e, w.words[at])
			}
		}
	}
	return behind
}

// The power goes somewhere in a walk, and again in the walk on what is left, and so on. Each walk's Allocs are held against the model, so that what was not come to is seen to be given out again.
func TestP10StepsWhileThePowerGoes(t *testing.T) {
	random := rand.New(rand.NewSource(9))
	behind := 0
	for range 400 {
		words := someHeap(random)
		for range 8 {
			w := newWalker(t, random, words)
			words = w.walkUntilThePowerGoes()
			behind += w.checkLeft(words)
		}
	}
	if behind < 3000 {
		t.Errorf("only %d blocks were kept by persisted words: the walks are too poor to try that on", behind)
	}
}

// One walk has one outcome, to the act.
func TestP2OneOutcome(t *testing.T) {
	for seed := range int64(20) {
		var first *walker
		for range 5 {
			random := rand.New(rand.NewSource(seed))
			w := newWalker(t, random, someHeap(random))
			for range 150 {
				w.step()
			}
			if first == nil {
				first = w
			}
			if !slices.Equal(w.h.Blocks(), first.h.Blocks()) || !slices.Equal(nowOf(w.m), nowOf(first.m)) || !slices.Equal(w.m.Image(), first.m.Image()) {
				t.Fatalf("P2: one walk, two outcomes: %v and %v", w.h.Blocks(), first.h.Blocks())
			}
		}
	}
}

// Behind the power's going no call panics, and all end; nothing more is put down.
func TestP1CallsBehindThePower(t *testing.T) {
	random := rand.New(rand.NewSource(10))
	for range 300 {
		words := someHeap(random)
		m := api.NewMemory(words)
		h := mustOpen(t, m)
		m.Plan(random.Intn(6), nil)
		for range 200 {
			h.Alloc(random.Intn(100) - 2)
			at := random.Intn(len(words)+20) - 10
			h.Store(at, random.Uint64())
			h.Load(at)
			h.Persist(at, random.Intn(20)-2)
			h.SetRoot(random.Intn(10)-1, random.Uint64())
			if random.Intn(3) == 0 {
				h.Free(at)
			}
			h.Blocks()
			h.Root(random.Intn(10) - 1)
		}
	}
}
