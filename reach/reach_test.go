package reach

import (
	"maps"
	"runtime"
	"slices"
	"testing"
	"time"

	"peat/api"
	"peat/layout"
)

// heapWords: of so many chunks, with some words set.
func heapWords(chunks int, set map[int]uint64) []uint64 {
	words := make([]uint64, api.FirstData+chunks*api.Chunk)
	for at, v := range set {
		words[at] = v
	}
	return words
}

func byWord(blocks map[layout.Place]int) map[int]int {
	out := map[int]int{}
	for place, words := range blocks {
		out[place.At()] = words
	}
	return out
}

func TestFromRoots(t *testing.T) {
	for name, c := range map[string]struct {
		set  map[int]uint64
		want map[int]int // by the number of the first word
	}{
		"no root":          {map[int]uint64{16: 1, 32: 34}, map[int]int{}},
		"each root":        {map[int]uint64{16: 1, 8: 32, 9: 34, 10: 36, 11: 38, 12: 40, 13: 42, 14: 44, 15: 46}, map[int]int{32: 2, 34: 2, 36: 2, 38: 2, 40: 2, 42: 2, 44: 2, 46: 2}},
		"two roots meet":   {map[int]uint64{16: 1, 8: 32, 9: 34, 32: 62, 35: 63}, map[int]int{32: 2, 34: 2, 62: 2}},
		"a ring":           {map[int]uint64{16: 1, 17: 17, 8: 33, 32: 64, 95: 32}, map[int]int{32: 2, 64: 32}},
		"itself":           {map[int]uint64{16: 4, 8: 50, 63: 48}, map[int]int{48: 16}},
		"a word behind it": {map[int]uint64{16: 1, 8: 32, 34: 40}, map[int]int{32: 2}},
	} {
		words := heapWords(2, c.set)
		was := slices.Clone(words)
		if got := byWord(FromRoots(words)); !maps.Equal(got, c.want) {
			t.Errorf("P4: %s: %v, want %v", name, got, c.want)
		}
		if !slices.Equal(words, was) {
			t.Errorf("P4: %s: the words have changed", name)
		}
	}
}

func TestFromRootsOfLongChain(t *testing.T) {
	words := heapWords(api.MaxChunks, map[int]uint64{15: 542})
	for c := range api.MaxChunks {
		words[api.AtHeaders+c] = 1
	}
	for at := 34; at < len(words); at += 2 {
		words[at+1] = uint64(at - 2)
	}
	if got := len(FromRoots(words)); got != 256 {
		t.Errorf("P4: %d blocks of a chain of 256", got)
	}
}

func TestNoSeekerIsLeft(t *testing.T) {
	ahead := runtime.NumGoroutine()
	words := heapWords(1, map[int]uint64{16: 1, 8: 32})
	for range 100 {
		FromRoots(words)
	}
	for range 100 {
		if runtime.NumGoroutine() <= ahead {
			return
		}
		time.Sleep(10 * time.Millisecond)
	}
	t.Errorf("P2: %d goroutines, %d ahead of the calls", runtime.NumGoroutine(), ahead)
}
