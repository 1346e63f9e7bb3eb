package peat_test

import (
	"math"
	"math/rand"
	"slices"
	"testing"

	"peat/api"
	"peat/peat"
)

func TestP4OpenOfNoHeap(t *testing.T) {
	var memories [][]uint64
	for n := range 700 {
		if n%32 == 0 && n >= 64 && n <= 544 {
			memories = append(memories, filled(n, 0), heapWords(n/32-1, map[int]uint64{0: api.Magic - 1}), heapWords(n/32-1, map[int]uint64{0: 1<<63 + api.Magic}))
			for _, chunks := range []uint64{0, uint64(n/32 - 2), uint64(n / 32), 1<<32 + uint64(n/32-1), 1<<63 + uint64(n/32-1), math.MaxUint64} {
				memories = append(memories, heapWords(n/32-1, map[int]uint64{1: chunks, 8: 32, 16: 1}))
			}
			continue
		}
		for _, chunks := range []int{n/32 - 1, n / 32} {
			words := filled(n, 40)
			if n > 1 {
				words[0], words[1] = api.Magic, uint64(chunks)
			}
			memories = append(memories, words)
		}
	}
	for _, words := range memories {
		m := api.NewMemory(words)
		untouched(t, m, func() {
			if h, e := peat.Open(m); h != nil || e != api.ErrBad {
				t.Errorf("P4: Open of %d words = %v, %d", len(words), h, e)
			}
		})
		if !slices.Equal(nowOf(m), words) || !slices.Equal(m.Image(), words) {
			t.Errorf("P1: Open of %d words has changed them", len(words))
		}
	}
	if h, e := peat.Open(&api.Memory{}); h != nil || e != api.ErrBad {
		t.Errorf("P4: Open of the zero Memory = %v, %d", h, e)
	}
}

func TestP4OpenHoldsNothingAgainstTheOtherWords(t *testing.T) {
	m := api.NewMemory(heapWords(2, map[int]uint64{2: 9, 7: math.MaxUint64, 18: 17, 31: 8, 8: 96, 9: 127}))
	if l := mustOpen(t, m).Blocks(); len(l) != 0 {
		t.Errorf("P4: Blocks() = %v", l)
	}
}

func TestP4OpenGoesByWhatIsWritten(t *testing.T) {
	m := api.NewMemory(heapWords(1, map[int]uint64{16: 1}))
	m.Store(api.AtRoots, 40)
	if l := mustOpen(t, m).Blocks(); !slices.Equal(l, []api.Block{{At: 40, Words: 2}}) {
		t.Errorf("P4: Blocks() = %v", l)
	}
}

// someNumber: mostly the number of a word, or one close by.
func someNumber(random *rand.Rand, words int) uint64 {
	switch random.Intn(8) {
	case 0:
		return random.Uint64()
	case 1:
		return uint64(words + random.Intn(3) - 1)
	case 2:
		return uint64(random.Intn(40))
	}
	return uint64(32 + random.Intn(words-32))
}

// someHeap: a heap with headers of each kind, whole and broken, and a few pointers.
func someHeap(random *rand.Rand) []uint64 {
	chunks := 1 + random.Intn(16)
	words := heapWords(chunks, nil)
	for c := range api.MaxChunks {
		header := []uint64{0, 1, 2, 3, 4, 5, 8, 8, 8, 8, 16, 17, 18, 19, 20, 18, 19, math.MaxUint64, 1<<63 + 18}[random.Intn(19)]
		if random.Intn(12) == 0 {
			header = uint64(random.Intn(36))
		}
		words[api.AtHeaders+c] = header
	}
	for c := 0; c < chunks && random.Intn(2) == 0; {
		k := 1 + random.Intn(chunks-c)
		words[api.AtHeaders+c] = uint64(api.Head + k)
		for i := 1; i < k; i++ {
			words[api.AtHeaders+c+i] = api.Tail
		}
		c += k
	}
	for r := range api.Roots {
		if random.Intn(3) == 0 {
			words[api.AtRoots+r] = someNumber(random, len(words))
		}
	}
	pointers := random.Intn(4)
	for at := api.FirstData; at < len(words); at++ {
		if random.Intn(8) < pointers {
			words[at] = someNumber(random, len(words))
		}
	}
	return words
}

func TestP4OpenFindsWhatIsComeTo(t *testing.T) {
	random := rand.New(rand.NewSource(2))
	found := 0
	for range 20000 {
		words := someHeap(random)
		m := api.NewMemory(words)
		h := mustOpen(t, m)
		want := modelBlocks(words)
		if got := h.Blocks(); !slices.Equal(got, want) {
			t.Fatalf("P4: Blocks() = %v, want %v, of %v", got, want, words)
		}
		if now := nowOf(m); !slices.Equal(now[32:], words[32:]) || !slices.Equal(modelBlocks(now), want) {
			t.Fatalf("P4: Open has changed a word from 32 on, or what is come to: %v, was %v", now, words)
		}
		if got := rootsOf(t, h); !slices.Equal(got, words[8:16]) {
			t.Fatalf("P8: the roots are %v, want %v", got, words[8:16])
		}
		found += len(want)
	}
	if found < 20000 {
		t.Errorf("only %d blocks were come to: the heaps are too poor to try Open on", found)
	}
}

func TestP4OpenFromEachHeader(t *testing.T) {
	for header := range uint64(36) {
		for behind := range uint64(36) {
			for at := uint64(30); at < 98; at++ {
				words := heapWords(2, map[int]uint64{16: header, 17: behind, 11: at})
				got := mustOpen(t, api.NewMemory(words)).Blocks()
				if want := modelBlocks(words); !slices.Equal(got, want) {
					t.Fatalf("P4: headers %d and %d, root %d: Blocks() = %v, want %v", header, behind, at, got, want)
				}
			}
		}
	}
}

func TestP4BrokenGreatBlocks(t *testing.T) {
	for name, c := range map[string]struct {
		headers [3]uint64
		want    []api.Block
	}{
		"a Tail too many":     {[3]uint64{18, 8, 8}, []api.Block{{At: 32, Words: 64}}},
		"a Tail missing":      {[3]uint64{19, 8, 2}, []api.Block{{At: 96, Words: 4}}},
		"whole":               {[3]uint64{19, 8, 8}, []api.Block{{At: 32, Words: 96}}},
		"over the end":        {[3]uint64{0, 19, 8}, nil},
		"a Head in its midst": {[3]uint64{19, 18, 8}, []api.Block{{At: 64, Words: 64}}},
		"Tails alone":         {[3]uint64{8, 8, 8}, nil},
		"Tail behind a small": {[3]uint64{4, 8, 8}, []api.Block{{At: 32, Words: 16}}},
		"of no chunks":        {[3]uint64{16, 8, 17}, []api.Block{{At: 96, Words: 32}}},
		"of very many chunks": {[3]uint64{math.MaxUint64, 8, 1 << 63}, nil},
	} {
		words := heapWords(3, map[int]uint64{8: 40, 9: 64, 10: 96})
		copy(words[api.AtHeaders:], c.headers[:])
		if got := mustOpen(t, api.NewMemory(words)).Blocks(); !slices.Equal(got, c.want) {
			t.Errorf("P4: %s: Blocks() = %v, want %v", name, got, c.want)
		}
	}
}

func TestP4OpenWhileThePowerGoes(t *testing.T) {
	random := rand.New(rand.NewSource(3))
	for range 500 {
		words := someHeap(random)
		start := func() *api.Memory { return api.NewMemory(words) }
		var evicts []api.Evict
		for act := 1; act < 60; act++ {
			evicts = append(evicts, api.Evict{Acts: act, Line: random.Intn(4)})
		}
		for _, plan := range [][]api.Evict{nil, evicts} {
			eachCrash(start, plan, func(m *api.Memory) { peat.Open(m) }, func(left int, m *api.Memory) {
				d := m.Image()
				h := mustOpen(t, api.NewMemory(d))
				same := slices.Equal(h.Blocks(), modelBlocks(words)) && slices.Equal(rootsOf(t, h), words[8:16])
				if !same || !slices.Equal(d[32:], words[32:]) {
					t.Fatalf("P4: the power goes behind %d acts of Open: %v, was %v", left, d, words)
				}
			})
		}
	}
}
