package peat_test

import (
	"math"
	"math/rand"
	"slices"
	"testing"

	"peat/api"
	"peat/peat"
)

func TestP3Words(t *testing.T) {
	for _, chunks := range []int{math.MinInt, -17, -2, -1, 0, 17, 18, 1 << 59, math.MaxInt} {
		if words, e := peat.Words(chunks); words != 0 || e != api.ErrSize {
			t.Errorf("P3: Words(%d) = %d, %d", chunks, words, e)
		}
	}
	for chunks := 1; chunks <= 16; chunks++ {
		if words, e := peat.Words(chunks); words != 32+32*chunks || e != api.OK {
			t.Errorf("P3: Words(%d) = %d, %d", chunks, words, e)
		}
	}
}

func TestP3FormatOfWrongLengths(t *testing.T) {
	for n := range 700 {
		if n%32 == 0 && n >= 64 && n <= 544 {
			continue
		}
		for _, v := range []uint64{0, 40, api.Magic} {
			words := filled(n, v)
			m := api.NewMemory(words)
			untouched(t, m, func() {
				if e := peat.Format(m); e != api.ErrSize {
					t.Errorf("P3: Format of %d words: %d", n, e)
				}
			})
			if !slices.Equal(nowOf(m), words) || !slices.Equal(m.Image(), words) {
				t.Errorf("P1: Format of %d words has changed them", n)
			}
		}
	}
	if e := peat.Format(&api.Memory{}); e != api.ErrSize {
		t.Errorf("P3: Format of the zero Memory: %d", e)
	}
}

func TestP3FormatWhateverItHeld(t *testing.T) {
	for chunks := 1; chunks <= 16; chunks++ {
		n := 32 + 32*chunks
		for name, words := range map[string][]uint64{
			"zeros":        filled(n, 0),
			"forties":      filled(n, 40),
			"ones":         filled(n, math.MaxUint64),
			"a heap":       heapWords(chunks, map[int]uint64{8: 33, 16: 1, 32: 34, 7: 9, 31: 9}),
			"other chunks": heapWords(chunks, map[int]uint64{1: 99, 15: 40, 16: 17}),
		} {
			m := api.NewMemory(words)
			if e := peat.Format(m); e != api.OK {
				t.Fatalf("P3: Format of %s: %d", name, e)
			}
			want := slices.Concat(heapWords(chunks, nil)[:32], words[32:])
			if !slices.Equal(nowOf(m), want) || !slices.Equal(m.Image(), want) {
				t.Errorf("P3: Format of %s, %d chunks: now %v, put down %v", name, chunks, nowOf(m)[:32], m.Image()[:32])
			}
			h := mustOpen(t, api.NewMemory(m.Image()))
			if l := h.Blocks(); len(l) != 0 || !slices.Equal(rootsOf(t, h), filled(8, 0)) {
				t.Errorf("P3: behind Format of %s: blocks %v, roots %v", name, l, rootsOf(t, h))
			}
		}
	}
}

// starts: memories that Format is tried on; the later ones hold words that are written but not put down.
func starts() map[string]func() *api.Memory {
	heap := heapWords(3, map[int]uint64{8: 64, 15: 40, 16: 1, 17: 18, 18: 8, 64: 50, 5: 9, 30: 7})
	wrong := slices.Clone(heap)
	wrong[api.AtChunks] = 2
	wide := heapWords(12, map[int]uint64{8: 360, 15: 40, 16: 1, 23: 20, 24: 8, 25: 8, 26: 8, 40: 300})
	empty := heapWords(3, nil)
	over := func(down, now []uint64, flush bool) func() *api.Memory {
		return func() *api.Memory {
			m := api.NewMemory(down)
			for at, v := range now {
				m.Store(at, v)
			}
			for line := 0; flush && line*api.Line < m.Len(); line++ {
				m.Flush(line)
			}
			return m
		}
	}
	return map[string]func() *api.Memory{
		"a heap":                       func() *api.Memory { return api.NewMemory(heap) },
		"a heap of many chunks":        func() *api.Memory { return api.NewMemory(wide) },
		"forties":                      func() *api.Memory { return api.NewMemory(filled(len(heap), 40)) },
		"wrong chunks":                 func() *api.Memory { return api.NewMemory(wrong) },
		"an empty heap over a heap":    over(heap, empty, false),
		"a heap over zeros":            over(filled(len(heap), 0), heap, false),
		"a heap, noted, over zeros":    over(filled(len(heap), 0), heap, true),
		"zeros, noted, over a heap":    over(heap, filled(len(heap), 0), true),
		"a heap noted over wrong ones": over(wrong, heap, true),
	}
}

// leftAlone: is each line one that was there ahead of Format, put down or written?
func leftAlone(d []uint64, start *api.Memory) bool {
	down, now := start.Image(), nowOf(start)
	for at := 0; at < len(d); at += api.Line {
		line := d[at : at+api.Line]
		if !slices.Equal(line, down[at:at+api.Line]) && !slices.Equal(line, now[at:at+api.Line]) {
			return false
		}
	}
	return true
}

func checkFormatCrash(t *testing.T, start, m *api.Memory) bool {
	d := m.Image()
	h, e := peat.Open(api.NewMemory(d))
	if e == api.ErrBad || leftAlone(d, start) {
		return true
	}
	return e == api.OK && len(h.Blocks()) == 0 && slices.Equal(rootsOf(t, h), filled(8, 0))
}

func format(m *api.Memory) { peat.Format(m) }

func TestP3FormatWhileThePowerGoes(t *testing.T) {
	random := rand.New(rand.NewSource(1))
	var plans [][]api.Evict
	plans = append(plans, nil)
	for lines := 1; lines < 32; lines++ {
		var l []api.Evict
		for act := 1; act < 100; act++ {
			for line := range 5 {
				if lines>>line&1 == 1 {
					l = append(l, api.Evict{Acts: act, Line: line})
				}
			}
		}
		plans = append(plans, l)
	}
	for act := 1; act < 60; act++ {
		for line := range 4 {
			plans = append(plans, []api.Evict{{Acts: act, Line: line}})
		}
	}
	for range 300 {
		var l []api.Evict
		for act := 1; act < 60; act++ {
			if random.Intn(3) == 0 {
				l = append(l, api.Evict{Acts: act, Line: random.Intn(5)})
			}
		}
		plans = append(plans, l)
	}
	for name, start := range starts() {
		for k, evicts := range plans {
			eachCrash(start, evicts, format, func(left int, m *api.Memory) {
				if !checkFormatCrash(t, start(), m) {
					t.Fatalf("P3: Format of %s, plan %d, the power goes behind %d acts: %v", name, k, left, m.Image())
				}
			})
		}
	}
}

func TestP3FormatPutsDownWhatWasOnlyWritten(t *testing.T) {
	for name, start := range starts() {
		m := start()
		data := nowOf(m)[32:]
		if e := peat.Format(m); e != api.OK {
			t.Fatalf("P3: Format of %s: %d", name, e)
		}
		if !slices.Equal(m.Image()[:32], heapWords(m.Len()/32-1, nil)[:32]) {
			t.Errorf("P3: behind Format of %s is put down: %v", name, m.Image()[:32])
		}
		if !slices.Equal(nowOf(m)[32:], data) {
			t.Errorf("P4: Format of %s has changed a word from 32 on", name)
		}
	}
}
