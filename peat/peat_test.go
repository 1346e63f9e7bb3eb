package peat_test

import (
	"math/rand"
	"runtime"
	"slices"
	"testing"
	"time"

	"peat/api"
	"peat/peat"
)

func TestP9BlocksRise(t *testing.T) {
	words := heapWords(16, nil)
	var want []api.Block
	for c := range api.MaxChunks {
		words[api.AtHeaders+c] = uint64(1 + c%4)
	}
	for at := len(words) - 2; at >= api.FirstData; at -= 2 {
		words[at] = uint64(at - 1)
	}
	words[api.AtRoots] = uint64(len(words) - 1)
	for c := range api.MaxChunks {
		size := 2 << (c % 4)
		for i := 0; i < api.Chunk; i += size {
			want = append(want, api.Block{At: api.FirstData + c*api.Chunk + i, Words: size})
		}
	}
	if got := mustOpen(t, api.NewMemory(words)).Blocks(); !slices.Equal(got, want) {
		t.Errorf("P9: Blocks() = %v, want %v", got, want)
	}
}

func TestP2ListsAreTheCallers(t *testing.T) {
	h := mustOpen(t, api.NewMemory(heapWords(2, map[int]uint64{16: 1, 17: 17, 8: 32, 9: 40, 10: 70})))
	want := []api.Block{{At: 32, Words: 2}, {At: 40, Words: 2}, {At: 64, Words: 32}}
	first, second := h.Blocks(), h.Blocks()
	spoil(first)
	if !slices.Equal(second, want) || !slices.Equal(h.Blocks(), want) {
		t.Errorf("P2: a list that was written into has changed others: %v, %v", second, h.Blocks())
	}
}

func TestP2HeapsDoNotDisturbOneAnother(t *testing.T) {
	random := rand.New(rand.NewSource(4))
	var heaps []*peat.Heap
	var words [][]uint64
	for range 50 {
		words = append(words, someHeap(random))
		heaps = append(heaps, mustOpen(t, api.NewMemory(words[len(words)-1])))
	}
	for i, h := range heaps {
		if !slices.Equal(h.Blocks(), modelBlocks(words[i])) || !slices.Equal(rootsOf(t, h), words[i][8:16]) {
			t.Errorf("P2: heap %d answers otherwise once others are open", i)
		}
	}
}

func TestP2OneAnswerWhateverTheOrder(t *testing.T) {
	words := heapWords(16, nil)
	random := rand.New(rand.NewSource(5))
	for r := range api.Roots {
		words[api.AtRoots+r] = uint64(32 + random.Intn(512))
	}
	for c := range api.MaxChunks {
		words[api.AtHeaders+c] = 1
	}
	for at := 32; at < len(words); at += 4 {
		words[at] = uint64(32 + random.Intn(512))
	}
	want := modelBlocks(words)
	for range 1000 {
		if got := mustOpen(t, api.NewMemory(words)).Blocks(); !slices.Equal(got, want) {
			t.Fatalf("P2: Blocks() = %v, want %v", got, want)
		}
	}
}

func TestP2NoGoroutineIsLeft(t *testing.T) {
	ahead := runtime.NumGoroutine()
	for range 100 {
		mustOpen(t, api.NewMemory(heapWords(1, map[int]uint64{16: 1, 8: 32}))).Blocks()
	}
	for range 100 {
		if runtime.NumGoroutine() <= ahead {
			return
		}
		time.Sleep(10 * time.Millisecond)
	}
	t.Errorf("P2: %d goroutines, %d ahead of the calls", runtime.NumGoroutine(), ahead)
}

func TestP1NoPowerFromTheStart(t *testing.T) {
	words := heapWords(2, map[int]uint64{16: 1, 8: 33})
	m := api.NewMemory(words)
	m.Plan(0, nil)
	peat.Format(m)
	if h, e := peat.Open(m); e == api.OK {
		h.Store(32, 7)
		h.Persist(32, 2)
		h.SetRoot(0, 7)
		h.Alloc(5)
		h.Blocks()
		h.Root(0)
	}
	if !slices.Equal(m.Image(), words) {
		t.Errorf("P1: without power something was put down")
	}
}
