package peat_test

import (
	"math"
	"slices"
	"testing"

	"peat/api"
	"peat/peat"
)

// oddNumbers: numbers that are words of no memory.
var oddNumbers = []int{math.MinInt, math.MinInt + 31, math.MinInt + 32, math.MinInt + 40, -1 << 32, -512, -32, -1, 1 << 31, 1 << 32, 1<<32 + 32, 1 << 62, 1<<62 + 32, math.MaxInt - 31, math.MaxInt}

// numbersOf: every word of the memory, and numbers that are none.
func numbersOf(m *api.Memory) []int {
	list := slices.Clone(oddNumbers)
	for at := range m.Len() + 600 {
		list = append(list, at)
	}
	return list
}

// mixed: blocks of all kinds, free places between them, a great block whose headers alone are left (chunk 6), and a Tail too many (chunk 5).
func mixed() []uint64 {
	return heapWords(8, map[int]uint64{16: 1, 17: 2, 18: 3, 19: 18, 20: 8, 21: 8, 22: 18, 23: 8, 8: 32, 9: 63, 10: 72, 11: 105, 12: 135})
}

var mixedBlocks = []api.Block{{At: 32, Words: 2}, {At: 62, Words: 2}, {At: 72, Words: 4}, {At: 104, Words: 8}, {At: 128, Words: 64}}

func TestP7StoreAndLoadOfEveryNumber(t *testing.T) {
	m := api.NewMemory(mixed())
	h := mustOpen(t, m)
	if got := h.Blocks(); !slices.Equal(got, mixedBlocks) {
		t.Fatalf("P4: Blocks() = %v", got)
	}
	for i, at := range numbersOf(m) {
		v := uint64(i)<<40 + 1
		want := nowOf(m)
		if !modelIn(mixedBlocks, at) {
			untouched(t, m, func() {
				if e := h.Store(at, v); e != api.ErrBlock {
					t.Errorf("P7: Store(%d): %d", at, e)
				}
				if got, e := h.Load(at); got != 0 || e != api.ErrBlock {
					t.Errorf("P7: Load(%d) = %d, %d", at, got, e)
				}
			})
		} else {
			want[at] = v
			if e := h.Store(at, v); e != api.OK {
				t.Errorf("P7: Store(%d): %d", at, e)
			}
			if got, e := h.Load(at); got != v || e != api.OK {
				t.Errorf("P7: Load(%d) = %d, %d, want %d", at, got, e, v)
			}
		}
		if !slices.Equal(nowOf(m), want) {
			t.Fatalf("P7: Store(%d) has changed another word", at)
		}
	}
	isWhole(t, m, h, mixedBlocks)
}

func TestP7LoadTellsWhatIsThere(t *testing.T) {
	words := mixed()
	for at := 32; at < len(words); at++ {
		words[at] = uint64(at) << 32
	}
	m := api.NewMemory(words)
	h := mustOpen(t, m)
	untouched(t, m, func() {
		for _, b := range mixedBlocks {
			for at := b.At; at < b.At+b.Words; at++ {
				if v, e := h.Load(at); v != words[at] || e != api.OK {
					t.Errorf("P7: Load(%d) = %d, %d", at, v, e)
				}
			}
		}
	})
}

func TestP7EachValue(t *testing.T) {
	h := mustOpen(t, api.NewMemory(heapWords(1, map[int]uint64{16: 1, 8: 40})))
	for _, v := range []uint64{0, 1, 32, 40, 1 << 31, 1 << 32, 1 << 63, math.MaxUint64, api.Magic} {
		if e := h.Store(41, v); e != api.OK {
			t.Errorf("P7: Store: %d", e)
		}
		if got, e := h.Load(41); got != v || e != api.OK {
			t.Errorf("P7: Load = %d, %d, want %d", got, e, v)
		}
	}
}

// What is known does not hang on what is stored behind Open: a pointer makes no block, and one that is gone takes none away.
func TestP9StoreChangesNoBlock(t *testing.T) {
	m := api.NewMemory(heapWords(1, map[int]uint64{16: 1, 8: 32, 32: 40}))
	h := mustOpen(t, m)
	want := []api.Block{{At: 32, Words: 2}, {At: 40, Words: 2}}
	for _, v := range []uint64{0, 50, 40} {
		if h.Store(32, v); !slices.Equal(h.Blocks(), want) {
			t.Errorf("P9: behind Store(32, %d): %v", v, h.Blocks())
		}
	}
}

func TestP6FreeOfEveryNumber(t *testing.T) {
	words := mixed()
	m := api.NewMemory(words)
	for _, at := range numbersOf(m) {
		h := mustOpen(t, m)
		want := slices.Clone(mixedBlocks)
		untouched(t, m, func() {
			if !modelBegins(mixedBlocks, at) {
				if e := h.Free(at); e != api.ErrBlock {
					t.Errorf("P6: Free(%d): %d", at, e)
				}
				return
			}
			want = slices.DeleteFunc(want, func(b api.Block) bool { return b.At == at })
			if e := h.Free(at); e != api.OK {
				t.Errorf("P6: Free(%d): %d", at, e)
			}
			if e := h.Free(at); e != api.ErrBlock {
				t.Errorf("P6: Free(%d) once more: %d", at, e)
			}
		})
		if got := h.Blocks(); !slices.Equal(got, want) {
			t.Fatalf("P6: behind Free(%d): %v, want %v", at, got, want)
		}
	}
	if !slices.Equal(nowOf(m), words) || !slices.Equal(m.Image(), words) {
		t.Errorf("P4: Free has changed a word")
	}
}

func TestP6WordsOfABlockGivenBack(t *testing.T) {
	for _, given := range mixedBlocks {
		m := api.NewMemory(mixed())
		h := mustOpen(t, m)
		h.Free(given.At)
		for _, b := range mixedBlocks {
			want := api.OK
			if b == given {
				want = api.ErrBlock
			}
			for at := b.At; at < b.At+b.Words; at++ {
				if e := h.Store(at, 7); e != want {
					t.Errorf("P7: behind Free(%d) Store(%d): %d", given.At, at, e)
				}
				if _, e := h.Load(at); e != want {
					t.Errorf("P7: behind Free(%d) Load(%d): %d", given.At, at, e)
				}
			}
		}
	}
}

// Once a chunk has no block, its room is there for blocks of any size.
func TestP6RoomIsGivenOutAgain(t *testing.T) {
	sizes := []int{2, 4, 8, 16, 32, 64, 96}
	for _, first := range sizes {
		for _, second := range sizes {
			m := api.NewMemory(heapWords(3, nil))
			h := mustOpen(t, m)
			for range 2 {
				list := fill(t, m, h, first)
				freeAllButLast(t, m, h, list, first, second)
				h.Free(list[len(list)-1])
				for _, at := range fill(t, m, h, second) {
					h.Free(at)
				}
			}
		}
	}
}

// fill: as many blocks of one size as there is room for in three empty chunks.
func fill(t *testing.T, m *api.Memory, h *peat.Heap, words int) []int {
	t.Helper()
	var list []int
	for range 96 / words {
		list = append(list, mustAlloc(t, h, words))
		isWhole(t, m, h, h.Blocks())
	}
	refuses(t, m, h, words, api.ErrSpace)
	return list
}

// freeAllButLast: the last block holds its chunk back from blocks of another size.
func freeAllButLast(t *testing.T, m *api.Memory, h *peat.Heap, list []int, first, second int) {
	t.Helper()
	for _, at := range list[:len(list)-1] {
		if e := h.Free(at); e != api.OK {
			t.Fatalf("P6: Free(%d): %d", at, e)
		}
	}
	last := []api.Block{{At: list[len(list)-1], Words: first}}
	isWhole(t, m, h, last)
	if _, want := modelRoom(last, 3, second); want != api.OK {
		refuses(t, m, h, second, want)
	}
	refuses(t, m, h, 96, api.ErrSpace)
}
