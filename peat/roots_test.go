package peat_test

import (
	"math"
	"math/rand"
	"slices"
	"testing"

	"peat/api"
)

var noRoots = []int{math.MinInt, math.MinInt + 8, -1 << 32, -16, -8, -1, 8, 9, 15, 16, 24, 1 << 31, 1 << 32, 1<<32 + 1, 1 << 62, math.MaxInt - 8, math.MaxInt - 7, math.MaxInt}

func TestP8Root(t *testing.T) {
	roots := []uint64{32, 0, math.MaxUint64, 7, 1 << 63, api.Magic, 31, 96}
	words := heapWords(2, nil)
	copy(words[api.AtRoots:], roots)
	words[7], words[16] = 77, 77
	m := api.NewMemory(words)
	h := mustOpen(t, m)
	if got := rootsOf(t, h); !slices.Equal(got, roots) {
		t.Errorf("P8: the roots are %v, want %v", got, roots)
	}
	if !slices.Equal(nowOf(m), words) {
		t.Errorf("P1: Root has changed the memory")
	}
}

func TestP8SetRoot(t *testing.T) {
	words := mixed()
	m := api.NewMemory(words)
	h := mustOpen(t, m)
	for _, v := range []uint64{0, 1, 8, 31, 32, 40, 63, 100, 287, 288, 1 << 31, 1 << 32, 1 << 62, 1<<63 + 32, math.MaxUint64 - 1, math.MaxUint64, api.Magic} {
		for r := range api.Roots {
			words[api.AtRoots+r] = v + uint64(r)
			if e := h.SetRoot(r, v+uint64(r)); e != api.OK {
				t.Fatalf("P8: SetRoot(%d, %d): %d", r, v+uint64(r), e)
			}
			if !slices.Equal(nowOf(m), words) {
				t.Fatalf("P8: behind SetRoot(%d, %d) the words are %v, want %v", r, v+uint64(r), nowOf(m), words)
			}
			if !slices.Equal(m.Image(), words) {
				t.Fatalf("P8: behind SetRoot(%d, %d) is put down %v, want %v", r, v+uint64(r), m.Image(), words)
			}
			if got := rootsOf(t, h); !slices.Equal(got, words[8:16]) {
				t.Fatalf("P8: the roots are %v, want %v", got, words[8:16])
			}
		}
	}
	if !slices.Equal(h.Blocks(), mixedBlocks) {
		t.Errorf("P9: SetRoot has changed the blocks: %v", h.Blocks())
	}
}

func TestP8SetRootOfNoRoot(t *testing.T) {
	m, h := written(t)
	now, down := nowOf(m), m.Image()
	for _, r := range noRoots {
		for _, v := range []uint64{0, 32, math.MaxUint64} {
			untouched(t, m, func() {
				if e := h.SetRoot(r, v); e != api.ErrRoot {
					t.Errorf("P8: SetRoot(%d, %d): %d", r, v, e)
				}
				if got, e := h.Root(r); got != 0 || e != api.ErrRoot {
					t.Errorf("P8: Root(%d) = %d, %d", r, got, e)
				}
			})
		}
	}
	if !slices.Equal(nowOf(m), now) || !slices.Equal(m.Image(), down) {
		t.Errorf("P1: SetRoot, which was refused, has changed something")
	}
}

func TestP8SetRootWhileThePowerGoes(t *testing.T) {
	random := rand.New(rand.NewSource(12))
	for range 500 {
		words := someHeap(random)
		r, v := random.Intn(8), random.Uint64()
		start := func() *api.Memory { return api.NewMemory(words) }
		set := func(m *api.Memory) { mustOpen(t, m).SetRoot(r, v) }
		for _, plan := range [][]api.Evict{nil, evictions(random, 20, 5)} {
			eachCrash(start, plan, set, func(left int, m *api.Memory) {
				d := m.Image()
				old := words[api.AtRoots+r]
				if got := d[api.AtRoots+r]; got != v && (got != old || !m.Gone()) {
					t.Fatalf("P8: the power goes behind %d acts of SetRoot(%d, %d): it is %d, was %d", left, r, v, got, old)
				}
				d[api.AtRoots+r] = old
				if !slices.Equal(d, words) {
					t.Fatalf("P8: the power goes behind %d acts of SetRoot(%d, %d): another word has changed", left, r, v)
				}
			})
		}
	}
}

// Magic and headers that were only written when the heap was opened are put down with a root, so that what it leads to is found behind a crash; whether they were noted as they were earlier does not matter.
func TestP10WhatOpenWentByWasOnlyWritten(t *testing.T) {
	for _, noted := range []bool{false, true} {
		for r := range api.Roots {
			m := api.NewMemory(filled(32+12*32, 1))
			for line := 0; noted && line < 4; line++ {
				m.Flush(line)
			}
			for at, v := range heapWords(12, map[int]uint64{16: 1, 17: 18, 18: 8, 27: 17, 15: 395, 400: 100, 64: 33}) {
				m.Store(at, v)
			}
			h := mustOpen(t, m)
			want := []api.Block{{At: 32, Words: 2}, {At: 64, Words: 64}, {At: 384, Words: 32}}
			if got := h.Blocks(); !slices.Equal(got, want) {
				t.Fatalf("P4: Blocks() = %v, want %v", got, want)
			}
			h.Persist(64, 64)
			h.Persist(32, 2)
			h.Persist(384, 32)
			h.SetRoot(r, 384)
			if got := mustOpen(t, api.NewMemory(m.Image())).Blocks(); !slices.Equal(got, want) {
				t.Fatalf("P10: behind a crash Blocks() = %v, want %v", got, want)
			}
		}
	}
}
