package peat_test

import (
	"math/rand"
	"slices"
	"testing"

	"peat/api"
	"peat/peat"
)

// walker: a heap, and what the document says of it behind each step.
type walker struct {
	t      *testing.T
	random *rand.Rand
	m      *api.Memory
	h      *peat.Heap
	blocks []api.Block
	words  []uint64
	may    [][]uint64 // of each word, what may be put down: what it was when it was persisted or set, and all that was written since

	// What the steps leave alone: blocks that are neither written nor given back, and a root that is not set.
	apart     []api.Block
	apartRoot int
}

func newWalker(t *testing.T, random *rand.Rand, words []uint64) *walker {
	t.Helper()
	return openWalker(t, random, api.NewMemory(words))
}

// openWalker: of a memory all of whose words are put down; the power may go while it is opened.
func openWalker(t *testing.T, random *rand.Rand, m *api.Memory) *walker {
	t.Helper()
	words := nowOf(m)
	h, e := peat.Open(m)
	if !m.Gone() && (h == nil || e != api.OK) {
		t.Fatalf("P4: Open = %v, %d", h, e)
	}
	w := &walker{t: t, random: random, m: m, h: h, blocks: modelBlocks(words), words: words, apartRoot: -1}
	for at, v := range words {
		w.may = append(w.may, nil)
		w.putDown(at, v)
	}
	return w
}

func (w *walker) putDown(at int, v uint64) {
	w.may[at] = []uint64{v}
}

// isLoose: was the word written and not put down since, as far as can be told?
func (w *walker) isLoose(at int) bool {
	return len(w.may[at]) > 1
}

// number: mostly a word of a block, often its first.
func (w *walker) number() int {
	if len(w.blocks) == 0 || w.random.Intn(4) == 0 {
		return w.random.Intn(len(w.words)+20) - 10
	}
	b := w.blocks[w.random.Intn(len(w.blocks))]
	return b.At + w.random.Intn(b.Words)*w.random.Intn(2)
}

func (w *walker) step() {
	w.t.Helper()
	switch w.random.Intn(9) {
	case 0, 1:
		w.alloc([]int{1, 3, 5, 12, 16, 17, 32, 33, 70, w.random.Intn(520) - 4}[w.random.Intn(10)])
	case 2:
		if at := w.number(); !modelIn(w.apart, at) {
			w.free(at)
		}
	case 3, 4:
		if at := w.number(); !modelIn(w.apart, at) {
			w.store(at, w.value())
		}
	case 5:
		w.load(w.number())
	case 6, 7:
		w.persist(w.number(), []int{1, 1, 2, 4, 8, 16, w.random.Intn(70) - 2}[w.random.Intn(7)])
	case 8:
		if root := w.random.Intn(10) - 1; root != w.apartRoot {
			w.setRoot(root, w.value())
		}
	}
}

// value: mostly a word of a block.
func (w *walker) value() uint64 {
	if w.random.Intn(3) == 0 {
		return someNumber(w.random, len(w.words))
	}
	return uint64(w.number())
}

// is: a call's answer; what it is when the power has gone is not said.
func (w *walker) is(call string, at int, got, want api.Errno) {
	w.t.Helper()
	if got != want && !w.m.Gone() {
		w.t.Fatalf("%s of %d: %d, want %d, of %v", call, at, got, want, w.blocks)
	}
}

// inBlock: what a call answers that asks for a word of a block.
func (w *walker) inBlock(at int) api.Errno {
	if modelIn(w.blocks, at) {
		return api.OK
	}
	return api.ErrBlock
}

// alloc tells the block's first word; 0, if there is none, or the power has gone.
func (w *walker) alloc(words int) int {
	w.t.Helper()
	room, want := modelRoom(w.blocks, len(w.words)/32-1, words)
	at, e := w.h.Alloc(words)
	w.is("P5: Alloc", words, e, want)
	if w.m.Gone() {
		return 0
	}
	if want != api.OK {
		if at != 0 {
			w.t.Fatalf("P5: Alloc(%d) = %d, %d", words, at, e)
		}
		return 0
	}
	b := api.Block{At: at, Words: room[0].Words}
	if !slices.Contains(room, b) {
		w.t.Fatalf("P5: Alloc(%d) = %d, want one of %v", words, at, room)
	}
	w.blocks = withBlock(w.blocks, b)
	return at
}

func (w *walker) free(at int) {
	w.t.Helper()
	want := api.ErrBlock
	if modelBegins(w.blocks, at) {
		want = api.OK
	}
	w.is("P6: Free", at, w.h.Free(at), want)
	w.blocks = slices.DeleteFunc(slices.Clone(w.blocks), func(b api.Block) bool { return b.At == at })
}

func (w *walker) store(at int, v uint64) {
	w.t.Helper()
	want := w.inBlock(at)
	if want == api.OK {
		w.words[at], w.may[at] = v, append(w.may[at], v)
	}
	w.is("P7: Store", at, w.h.Store(at, v), want)
}

func (w *walker) load(at int) {
	w.t.Helper()
	want, v := w.inBlock(at), uint64(0)
	if want == api.OK {
		v = w.words[at]
	}
	got, e := w.h.Load(at)
	w.is("P7: Load", at, e, want)
	if got != v && !w.m.Gone() {
		w.t.Fatalf("P7: Load(%d) = %d, want %d, of %v", at, got, v, w.blocks)
	}
}

func (w *walker) persist(at, words int) {
	w.t.Helper()
	want := modelPersist(w.blocks, at, words)
	w.is("P7: Persist", at, w.h.Persist(at, words), want)
	for i := 0; want == api.OK && i < words && !w.m.Gone(); i++ {
		w.putDown(at+i, w.words[at+i])
	}
}

func (w *walker) setRoot(root int, v uint64) {
	w.t.Helper()
	want := api.ErrRoot
	if root >= 0 && root < 8 {
		want = api.OK
	}
	w.is("P8: SetRoot", root, w.h.SetRoot(root, v), want)
	if want != api.OK {
		return
	}
	w.words[8+root], w.may[8+root] = v, append(w.may[8+root], v)
	if !w.m.Gone() {
		w.putDown(8+root, v)
	}
}

// kept: the blocks that are come to from roots by words, none of which is loose: these are found again whatever happens. It also tells how many of them no root points to.
func (w *walker) kept() ([]api.Block, int) {
	var list []api.Block
	come := func(from, words int) {
		for at := from; at < from+words; at++ {
			if w.isLoose(at) {
				continue
			}
			for _, b := range w.blocks {
				if v := w.words[at]; v >= uint64(b.At) && v < uint64(b.At+b.Words) && !slices.Contains(list, b) {
					list = append(list, b)
				}
			}
		}
	}
	come(8, 8)
	pointed := len(list)
	for i := 0; i < len(list); i++ {
		come(list[i].At, list[i].Words)
	}
	return list, len(list) - pointed
}

// check: all that is to be seen is as the document says; the list that came out is written into, so that a later answer would tell if it were kept.
func (w *walker) check() {
	w.t.Helper()
	list := w.h.Blocks()
	isWhole(w.t, w.m, w.h, w.blocks)
	spoil(list)
	now := nowOf(w.m)
	if !slices.Equal(now[32:], w.words[32:]) || !slices.Equal(now[:16], w.words[:16]) {
		w.t.Fatalf("P4: the words are %v, want %v but for the headers", now, w.words)
	}
	if !slices.Equal(rootsOf(w.t, w.h), w.words[8:16]) {
		w.t.Fatalf("P8: the roots are %v, want %v", rootsOf(w.t, w.h), w.words[8:16])
	}
	w.checkDown(w.m.Image())
}

// checkDown: every word that is put down, but for the headers, is one that it may be.
func (w *walker) checkDown(d []uint64) {
	w.t.Helper()
	for at, v := range d {
		isHeader := at >= api.AtHeaders && at < api.FirstData
		if !isHeader && !slices.Contains(w.may[at], v) {
			w.t.Fatalf("P4, P7, P8: %d is put down in word %d, want one of %v", v, at, w.may[at])
		}
	}
}

// checkLeft: what is left when the power has gone is as the document says. It tells how many blocks that no root points to were kept.
func (w *walker) checkLeft(d []uint64) int {
	w.t.Helper()
	w.checkDown(d)
	if !modelWhole(d, w.blocks) {
		w.t.Fatalf("P5: the headers that are left are %v, the blocks %v", d[16:32], w.blocks)
	}
	h := mustOpen(w.t, api.NewMemory(d))
	found := h.Blocks()
	if !slices.Equal(found, modelBlocks(d)) {
		w.t.Fatalf("P10: Open of what is left finds %v, want %v", found, modelBlocks(d))
	}
	kept, behind := w.kept()
	for _, b := range kept {
		if !slices.Contains(found, b) {
			w.t.Fatalf("P10: %v is lost: Open finds %v", b, found)
		}
		for at := b.At; at < b.At+b.Words; at++ {
			if v, e := h.Load(at); e != api.OK || !w.isLoose(at) && v != w.words[at] {
				w.t.Fatalf("P10: word %d is %d, %d, want %d", at, v, e, w.words[at])
			}
		}
	}
	return behind
}
