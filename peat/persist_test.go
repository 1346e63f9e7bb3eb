package peat_test

import (
	"math"
	"math/rand"
	"slices"
	"testing"

	"peat/api"
	"peat/peat"
)

// written: the heap of mixed, all of whose words in blocks are written over but not put down.
func written(t *testing.T) (*api.Memory, *peat.Heap) {
	t.Helper()
	m := api.NewMemory(mixed())
	h := mustOpen(t, m)
	for _, b := range mixedBlocks {
		writeAll(t, h, b, 1<<40)
	}
	return m, h
}

// writeAll: each word of a block is its number and some more.
func writeAll(t *testing.T, h *peat.Heap, b api.Block, more uint64) {
	t.Helper()
	for at := b.At; at < b.At+b.Words; at++ {
		if e := h.Store(at, uint64(at)+more); e != api.OK {
			t.Fatalf("P7: Store(%d): %d", at, e)
		}
	}
}

// refusesPersist: Persist answers the error and does no act.
func refusesPersist(t *testing.T, m *api.Memory, h *peat.Heap, at, words int, want api.Errno) {
	t.Helper()
	untouched(t, m, func() {
		if e := h.Persist(at, words); e != want {
			t.Errorf("P7: Persist(%d, %d): %d, want %d", at, words, e, want)
		}
	})
}

func TestP7PersistOfEveryPart(t *testing.T) {
	for _, b := range mixedBlocks {
		for at := b.At; at < b.At+b.Words; at++ {
			for n := 1; at+n <= b.At+b.Words; n++ {
				m, h := written(t)
				now := nowOf(m)
				if e := h.Persist(at, n); e != api.OK {
					t.Fatalf("P7: Persist(%d, %d): %d", at, n, e)
				}
				if d := m.Image(); !slices.Equal(d[at:at+n], now[at:at+n]) {
					t.Fatalf("P7: behind Persist(%d, %d) is put down %v, want %v", at, n, d[at:at+n], now[at:at+n])
				}
				if !slices.Equal(nowOf(m), now) || !slices.Equal(h.Blocks(), mixedBlocks) {
					t.Fatalf("P4: Persist(%d, %d) has changed a word, or the blocks", at, n)
				}
			}
		}
	}
}

// Every small block of a chunk and every great block of a heap, whole: its neighbours' words may be put down with it, but not changed.
func TestP7PersistOfWholeBlocks(t *testing.T) {
	for _, size := range []int{2, 4, 8, 16, 32, 64, 96} {
		m := api.NewMemory(heapWords(3, nil))
		h := mustOpen(t, m)
		fill(t, m, h, size)
		for _, b := range h.Blocks() {
			writeAll(t, h, b, 1<<50)
		}
		now := nowOf(m)
		for _, b := range h.Blocks() {
			if e := h.Persist(b.At, b.Words); e != api.OK {
				t.Errorf("P7: Persist of %v: %d", b, e)
			}
			if !slices.Equal(m.Image()[b.At:b.At+b.Words], now[b.At:b.At+b.Words]) {
				t.Errorf("P7: %v was not put down", b)
			}
			refusesPersist(t, m, h, b.At, b.Words+1, api.ErrBlock)
			refusesPersist(t, m, h, b.At+b.Words-1, 2, api.ErrBlock)
			refusesPersist(t, m, h, b.At-1, b.Words+2, api.ErrBlock)
		}
		if !slices.Equal(nowOf(m), now) || !slices.Equal(m.Image(), now) {
			t.Errorf("P7: not all of the blocks of %d words were put down as they are", size)
		}
	}
}

func TestP7PersistOverTheEnd(t *testing.T) {
	m, h := written(t)
	now, down := nowOf(m), m.Image()
	for _, b := range mixedBlocks {
		for at := b.At; at < b.At+b.Words; at++ {
			left := b.At + b.Words - at
			for more := 1; more < 100; more++ {
				refusesPersist(t, m, h, at, left+more, api.ErrBlock)
			}
			for _, n := range []int{544, 1 << 31, 1 << 32, 1<<32 + left, 1 << 62, math.MaxInt - at - 1, math.MaxInt - at, math.MaxInt - at + 1, math.MaxInt - 7, math.MaxInt} {
				refusesPersist(t, m, h, at, n, api.ErrBlock)
			}
		}
	}
	if !slices.Equal(nowOf(m), now) || !slices.Equal(m.Image(), down) {
		t.Errorf("P1: Persist, which was refused, has changed something")
	}
}

func TestP7PersistOfEveryNumber(t *testing.T) {
	m, h := written(t)
	now, down := nowOf(m), m.Image()
	for _, at := range numbersOf(m) {
		for _, n := range []int{math.MinInt, math.MinInt + 1, -1 << 32, -at, -8, -1, 0} {
			if n < 1 {
				refusesPersist(t, m, h, at, n, api.ErrSize)
			}
		}
		if modelIn(mixedBlocks, at) {
			continue
		}
		for _, n := range []int{1, 2, 8, 32, 64, 600, 1 << 32, 1 << 62, math.MaxInt - 1, math.MaxInt} {
			refusesPersist(t, m, h, at, n, api.ErrBlock)
		}
	}
	if !slices.Equal(nowOf(m), now) || !slices.Equal(m.Image(), down) {
		t.Errorf("P1: Persist, which was refused, has changed something")
	}
}

func TestP7PersistOfABlockGivenBack(t *testing.T) {
	for _, b := range mixedBlocks {
		m, h := written(t)
		h.Free(b.At)
		for at := b.At; at < b.At+b.Words; at++ {
			refusesPersist(t, m, h, at, 1, api.ErrBlock)
			refusesPersist(t, m, h, at, 0, api.ErrSize)
		}
	}
}

func TestP7PersistAsTheyAreThen(t *testing.T) {
	m := api.NewMemory(heapWords(2, map[int]uint64{16: 2, 8: 36}))
	// Noted ahead of Open as it was then: that must not be what is put down.
	m.Flush(36 / api.Line)
	h := mustOpen(t, m)
	for v := uint64(1); v < 5; v++ {
		h.Store(36, v)
		if down := m.Image()[36]; down != v-1 {
			t.Errorf("P7: ahead of Persist %d is put down, want %d", down, v-1)
		}
		if e := h.Persist(36, 1); e != api.OK || m.Image()[36] != v {
			t.Errorf("P7: Persist: %d, %d is put down, want %d", e, m.Image()[36], v)
		}
	}
}

func TestP7PersistWhileThePowerGoes(t *testing.T) {
	random := rand.New(rand.NewSource(11))
	for range 1000 {
		b := mixedBlocks[random.Intn(len(mixedBlocks))]
		at := b.At + random.Intn(b.Words)
		n := 1 + random.Intn(b.At+b.Words-at)
		start := func() *api.Memory { m, _ := written(t); return m }
		persist := func(m *api.Memory) { mustOpen(t, m).Persist(at, n) }
		down, now := start().Image(), nowOf(start())
		for _, plan := range [][]api.Evict{nil, evictions(random, 20, 25)} {
			eachCrash(start, plan, persist, func(left int, m *api.Memory) {
				d := m.Image()
				for i := range d {
					if d[i] != down[i] && d[i] != now[i] {
						t.Fatalf("P7: the power goes behind %d acts of Persist(%d, %d): word %d is %d", left, at, n, i, d[i])
					}
				}
				if !m.Gone() && !slices.Equal(d[at:at+n], now[at:at+n]) {
					t.Fatalf("P7: Persist(%d, %d) is over, and %v is put down", at, n, d[at:at+n])
				}
			})
		}
	}
}
