package peat_test

import (
	"math"
	"math/rand"
	"slices"
	"testing"

	"peat/api"
	"peat/peat"
)

func mustAlloc(t *testing.T, h *peat.Heap, words int) int {
	t.Helper()
	at, e := h.Alloc(words)
	if at < api.FirstData || e != api.OK {
		t.Fatalf("P5: Alloc(%d) = %d, %d", words, at, e)
	}
	return at
}

// refuses: Alloc answers the error and does no act.
func refuses(t *testing.T, m *api.Memory, h *peat.Heap, words int, want api.Errno) {
	t.Helper()
	blocks, now := h.Blocks(), nowOf(m)
	untouched(t, m, func() {
		if at, e := h.Alloc(words); at != 0 || e != want {
			t.Errorf("P5: Alloc(%d) = %d, %d, want %d", words, at, e, want)
		}
	})
	if !slices.Equal(h.Blocks(), blocks) || !slices.Equal(nowOf(m), now) {
		t.Errorf("P1: Alloc(%d), which was refused, has changed something", words)
	}
}

// isWhole: Blocks are these, and every word of each belongs to it, by the words as they are and by those that are put down.
func isWhole(t *testing.T, m *api.Memory, h *peat.Heap, blocks []api.Block) {
	t.Helper()
	if got := h.Blocks(); !slices.Equal(got, blocks) {
		t.Fatalf("P9: Blocks() = %v, want %v", got, blocks)
	}
	if !modelWhole(nowOf(m), blocks) {
		t.Fatalf("P5: the headers are %v, the blocks %v", nowOf(m)[16:32], blocks)
	}
	if !modelWhole(m.Image(), blocks) {
		t.Fatalf("P5: the headers that are put down are %v, the blocks %v", m.Image()[16:32], blocks)
	}
}

// withBlock: the blocks and one more, rising.
func withBlock(blocks []api.Block, b api.Block) []api.Block {
	return rising(append(slices.Clone(blocks), b))
}

func rising(blocks []api.Block) []api.Block {
	list := slices.Clone(blocks)
	slices.SortFunc(list, func(a, b api.Block) int { return a.At - b.At })
	return list
}

func TestP5AllocOfWrongSizes(t *testing.T) {
	for chunks := 1; chunks <= 16; chunks++ {
		words := heapWords(chunks, map[int]uint64{16: 1, 8: 32})
		m := api.NewMemory(words)
		h := mustOpen(t, m)
		for _, n := range []int{math.MinInt, math.MinInt + 1, math.MinInt + 32, -1 << 32, -32, -1, 0, 32*chunks + 1, 32*chunks + 32, 513, 544, 545, 1 << 31, 1 << 32, 1<<32 + 1, 1 << 62, 1<<62 + 1, math.MaxInt - 31, math.MaxInt - 30, math.MaxInt} {
			refuses(t, m, h, n, api.ErrSize)
		}
		// The greatest that may be asked for is no wrong size, though there is no room for it.
		refuses(t, m, h, 32*chunks, api.ErrSpace)
		if h.Free(32); mustAlloc(t, h, 32*chunks) != 32 {
			t.Errorf("P5: the whole heap was not given out")
		}
		refuses(t, m, h, 0, api.ErrSize)
		refuses(t, m, h, 32*chunks+1, api.ErrSize)
		refuses(t, m, h, 1, api.ErrSpace)
	}
}

func TestP5EachSize(t *testing.T) {
	for chunks := 1; chunks <= 16; chunks++ {
		for words := 1; words <= 32*chunks; words++ {
			m := api.NewMemory(heapWords(chunks, nil))
			h := mustOpen(t, m)
			var blocks []api.Block
			for {
				room, want := modelRoom(blocks, chunks, words)
				if want != api.OK {
					refuses(t, m, h, words, want)
					break
				}
				at := mustAlloc(t, h, words)
				b := api.Block{At: at, Words: room[0].Words}
				if !slices.Contains(room, b) {
					t.Fatalf("P5: Alloc(%d) = %d beside %v, want one of %v", words, at, blocks, room)
				}
				blocks = withBlock(blocks, b)
				isWhole(t, m, h, blocks)
			}
		}
	}
}

func TestP5WhichSizesShareNoChunk(t *testing.T) {
	sizes := []int{1, 2, 3, 4, 5, 8, 9, 16, 17, 32}
	for _, first := range sizes {
		for _, second := range sizes {
			h := mustOpen(t, api.NewMemory(heapWords(1, nil)))
			mustAlloc(t, h, first)
			b := h.Blocks()[0]
			_, want := modelRoom([]api.Block{b}, 1, second)
			if _, e := h.Alloc(second); e != want {
				t.Errorf("P5: Alloc(%d) beside %d words in one chunk: %d, want %d", second, first, e, want)
			}
		}
	}
}

func TestP5GreatBlocksComeFirst(t *testing.T) {
	// Chunks 0, 3 and 8 have blocks: there are gaps of 2, 4 and 7.
	words := heapWords(16, map[int]uint64{16: 1, 8: 62, 19: 17, 9: 130, 24: 4, 10: 304})
	m := api.NewMemory(words)
	h := mustOpen(t, m)
	for n, chunk := range map[int]int{17: 1, 32: 1, 33: 1, 64: 1, 65: 4, 96: 4, 97: 4, 128: 4, 129: 9, 160: 9, 193: 9, 224: 9} {
		at := mustAlloc(t, h, n)
		if at != 32+32*chunk {
			t.Errorf("P5: Alloc(%d) = %d, want %d", n, at, 32+32*chunk)
		}
		h.Free(at)
	}
	refuses(t, m, h, 32*7+1, api.ErrSpace)
	refuses(t, m, h, 512, api.ErrSpace)
}

// A great block whose headers stand in both lines of headers.
func TestP5HeadersOverTwoLines(t *testing.T) {
	for chunks := 9; chunks <= 16; chunks++ {
		for first := range 8 {
			for k := 9 - first; first+k <= chunks; k++ {
				m := api.NewMemory(heapWords(chunks, nil))
				h := mustOpen(t, m)
				var blocks []api.Block
				for range first {
					blocks = append(blocks, api.Block{At: mustAlloc(t, h, 32), Words: 32})
				}
				blocks = append(blocks, api.Block{At: mustAlloc(t, h, 32*k), Words: 32 * k})
				isWhole(t, m, h, blocks)
			}
		}
	}
}

func TestP5WhateverStoodInTheHeaders(t *testing.T) {
	// Chunks 1 and 4 have blocks; what is left holds every kind of header.
	random := rand.New(rand.NewSource(6))
	odd := []uint64{0, 1, 2, 3, 4, 5, 7, 8, 8, 8, 9, 15, 16, 17, 18, 19, 20, 21, 22, 1 << 32, 1<<63 + 8, math.MaxUint64}
	for range 3000 {
		words := heapWords(7, map[int]uint64{8: 64, 9: 160})
		for c := range 7 {
			words[16+c] = odd[random.Intn(len(odd))]
		}
		words[17], words[20] = 2, 17
		for _, n := range []int{1, 3, 7, 16, 17, 33, 64} {
			m := api.NewMemory(words)
			h := mustOpen(t, m)
			blocks := h.Blocks()
			room, want := modelRoom(blocks, 7, n)
			at, e := h.Alloc(n)
			if e != want {
				t.Fatalf("P5: Alloc(%d) beside %v: %d, want %d", n, blocks, e, want)
			}
			b := api.Block{At: at, Words: room[0].Words}
			if !slices.Contains(room, b) {
				t.Fatalf("P5: Alloc(%d) = %d beside %v, want one of %v", n, at, blocks, room)
			}
			isWhole(t, m, h, withBlock(blocks, b))
		}
	}
}

func TestP5TheBlocksWordsAreAsTheyWere(t *testing.T) {
	for _, n := range []int{1, 4, 5, 16, 17, 100, 512} {
		words := heapWords(16, nil)
		for at := 32; at < len(words); at++ {
			words[at] = uint64(at) << 40
		}
		m := api.NewMemory(words)
		h := mustOpen(t, m)
		at := mustAlloc(t, h, n)
		for i := range h.Blocks()[0].Words {
			if v, e := h.Load(at + i); v != words[at+i] || e != api.OK {
				t.Errorf("P5: word %d behind Alloc(%d) is %d, %d", at+i, n, v, e)
			}
		}
		if !slices.Equal(nowOf(m)[32:], words[32:]) || !slices.Equal(m.Image()[32:], words[32:]) || !slices.Equal(m.Image()[:16], words[:16]) {
			t.Errorf("P4: Alloc(%d) has changed a word that is no header", n)
		}
	}
}

// Headers that were only written when the heap was opened are put down with those of a new block, so that the blocks that Open found are whole too.
func TestP5HeadersThatWereOnlyWritten(t *testing.T) {
	for _, n := range []int{1, 2, 17, 64} {
		m := api.NewMemory(heapWords(12, map[int]uint64{8: 33, 9: 290, 10: 68}))
		for at, v := range map[int]uint64{16: 1, 17: 18, 18: 8, 24: 18, 25: 8} {
			m.Store(at, v)
		}
		h := mustOpen(t, m)
		blocks := h.Blocks()
		if len(blocks) != 3 {
			t.Fatalf("P4: Blocks() = %v", blocks)
		}
		at := mustAlloc(t, h, n)
		isWhole(t, m, h, h.Blocks())
		if !modelBegins(h.Blocks(), at) {
			t.Errorf("P9: no block begins at %d", at)
		}
	}
}

// evictions: one of the first so many lines now and then, at random.
func evictions(random *rand.Rand, acts, lines int) []api.Evict {
	var list []api.Evict
	for act := 1; act < acts; act++ {
		if random.Intn(2) == 0 {
			list = append(list, api.Evict{Acts: act, Line: random.Intn(lines)})
		}
	}
	return list
}

func TestP5AllocWhileThePowerGoes(t *testing.T) {
	random := rand.New(rand.NewSource(7))
	for range 1500 {
		words := someHeap(random)
		blocks := modelBlocks(words)
		n := []int{1, 4, 8, 16, 17, 64, 65, 32 * (len(words)/32 - 1)}[random.Intn(8)]
		start := func() *api.Memory { return api.NewMemory(words) }
		alloc := func(m *api.Memory) { mustOpen(t, m).Alloc(n) }
		for _, plan := range [][]api.Evict{nil, evictions(random, 30, 5)} {
			eachCrash(start, plan, alloc, func(left int, m *api.Memory) {
				d := m.Image()
				if !modelWhole(d, blocks) || !modelWhole(nowOf(m), blocks) {
					t.Fatalf("P5: the power goes behind %d acts of Alloc(%d): headers %v, blocks %v", left, n, d[16:32], blocks)
				}
				found := mustOpen(t, api.NewMemory(d)).Blocks()
				for _, b := range blocks {
					if !slices.Contains(found, b) {
						t.Fatalf("P5: the power goes behind %d acts of Alloc(%d): %v is lost", left, n, b)
					}
				}
				if !slices.Equal(d[:16], words[:16]) || !slices.Equal(d[32:], words[32:]) {
					t.Fatalf("P4: the power goes behind %d acts of Alloc(%d): a word that is no header has changed", left, n)
				}
			})
		}
	}
}

func TestDocumentExample2(t *testing.T) {
	m := api.NewMemory(heapWords(2, nil))
	h := mustOpen(t, m)
	a := mustAlloc(t, h, 3)
	if m.Image()[16+(a-32)/32] != 2 {
		t.Errorf("P5: behind Alloc(3) the headers are %v", m.Image()[16:18])
	}
	refuses(t, m, h, 33, api.ErrSpace)
	b := mustAlloc(t, h, 17)
	if m.Image()[16+(b-32)/32] != 17 {
		t.Errorf("P5: behind Alloc(17) the headers are %v", m.Image()[16:18])
	}
	refuses(t, m, h, 65, api.ErrSize)
	refuses(t, m, h, 1, api.ErrSpace)
	isWhole(t, m, h, withBlock([]api.Block{{At: a, Words: 4}}, api.Block{At: b, Words: 32}))
}
