package layout

import (
	"math"
	"testing"

	"peat/api"
)

func TestWordsAndChunks(t *testing.T) {
	for _, chunks := range []int{math.MinInt, -1, 0, 17, 18, math.MaxInt} {
		if words, ok := Words(chunks); words != 0 || ok {
			t.Errorf("P3: Words(%d) = %d, %v", chunks, words, ok)
		}
	}
	for words := -100; words < 1000; words++ {
		chunks, ok := Chunks(words)
		right := words%32 == 0 && words >= 64 && words <= 544
		if ok != right {
			t.Errorf("P3: Chunks(%d) = %d, %v", words, chunks, ok)
		}
		if back, _ := Words(chunks); right && back != words || !right && chunks != 0 {
			t.Errorf("P3: Chunks(%d) = %d, Words of that is %d", words, chunks, back)
		}
	}
}

func TestKindOf(t *testing.T) {
	for header, want := range map[uint64]HeaderKind{
		0: HeaderFree, 1: HeaderTwo, 2: HeaderFour, 3: HeaderEight, 4: HeaderSixteen,
		5: HeaderFree, 7: HeaderFree, 8: HeaderTail, 9: HeaderFree, 15: HeaderFree, 16: HeaderFree,
		17: HeaderHead, 32: HeaderHead, 33: HeaderHead, math.MaxUint64: HeaderHead,
		1<<32 + 1: HeaderHead, 1<<63 + 8: HeaderHead,
	} {
		if got := KindOf(header); got != want {
			t.Errorf("P4: KindOf(%d) = %d, want %d", header, got, want)
		}
	}
}

func TestBlockOf(t *testing.T) {
	for _, c := range []struct {
		headers []uint64
		number  uint64
		want    Block
	}{
		{[]uint64{1}, 31, Block{}},
		{[]uint64{1}, 32, Block{SmallBlock, Place{0, 0}, 2}},
		{[]uint64{1}, 63, Block{SmallBlock, Place{0, 30}, 2}},
		{[]uint64{1}, 64, Block{}},
		{[]uint64{1}, math.MaxUint64, Block{}},
		{[]uint64{1}, 1<<63 + 32, Block{}},
		{[]uint64{1}, 1<<32 + 32, Block{}},
		{[]uint64{0, 2}, 71, Block{SmallBlock, Place{1, 4}, 4}},
		{[]uint64{0, 3}, 71, Block{SmallBlock, Place{1, 0}, 8}},
		{[]uint64{0, 4}, 95, Block{SmallBlock, Place{1, 16}, 16}},
		{[]uint64{18, 8, 8}, 95, Block{GreatBlock, Place{0, 0}, 64}},
		{[]uint64{18, 8, 8}, 96, Block{}},
		{[]uint64{19, 8, 2}, 40, Block{}},
		{[]uint64{19, 8, 2}, 70, Block{}},
		{[]uint64{19, 8, 2}, 100, Block{SmallBlock, Place{2, 4}, 4}},
		{[]uint64{8, 8}, 70, Block{}},
		{[]uint64{1, 8}, 70, Block{}},
		{[]uint64{0, 8}, 70, Block{}},
		{[]uint64{16, 8}, 70, Block{}},
		{[]uint64{19, 8}, 40, Block{}},
		{[]uint64{17, 19}, 70, Block{}},
		{[]uint64{math.MaxUint64, 8}, 40, Block{}},
		{[]uint64{1<<63 + 17, 8}, 70, Block{}},
	} {
		if got := BlockOf(c.headers, c.number); got != c.want {
			t.Errorf("P4: BlockOf(%v, %d) = %v, want %v", c.headers, c.number, got, c.want)
		}
	}
}

func TestGreatBlockOfAllChunks(t *testing.T) {
	headers := make([]uint64, api.MaxChunks)
	headers[0] = api.Head + api.MaxChunks
	for c := 1; c < len(headers); c++ {
		headers[c] = api.Tail
	}
	want := Block{GreatBlock, Place{}, 512}
	for number := uint64(32); number < 544; number++ {
		if got := BlockOf(headers, number); got != want {
			t.Fatalf("P4: word %d belongs to %v", number, got)
		}
	}
	headers[0]++
	if got := BlockOf(headers, 40); got != (Block{}) {
		t.Errorf("P4: a great block of 17 chunks: %v", got)
	}
}

func TestPlaceAt(t *testing.T) {
	for place, want := range map[Place]int{{0, 0}: 32, {0, 31}: 63, {1, 0}: 64, {15, 31}: 543} {
		if got := place.At(); got != want {
			t.Errorf("P9: %v is word %d, want %d", place, got, want)
		}
	}
}

func TestFit(t *testing.T) {
	for words := 1; words <= 512; words++ {
		want := Block{Kind: GreatBlock, Words: (words + 31) / 32 * 32}
		for _, size := range []int{16, 8, 4, 2} {
			if words <= size {
				want = Block{Kind: SmallBlock, Words: size}
			}
		}
		if got := Fit(words); got != want {
			t.Errorf("P5: Fit(%d) = %v, want %v", words, got, want)
		}
	}
}

func TestHeaders(t *testing.T) {
	for size, want := range map[int]uint64{2: 1, 4: 2, 8: 3, 16: 4} {
		if got := Headers(Block{SmallBlock, Place{3, 0}, size}); len(got) != 1 || got[0] != want {
			t.Errorf("P5: the headers of a block of %d words are %v, want %d", size, got, want)
		}
	}
	for chunks := 1; chunks <= api.MaxChunks; chunks++ {
		want := Block{GreatBlock, Place{}, chunks * api.Chunk}
		headers := Headers(want)
		if len(headers) != chunks {
			t.Fatalf("P5: the headers of a block of %d chunks are %v", chunks, headers)
		}
		for number := api.FirstData; number < api.FirstData+want.Words; number++ {
			if got := BlockOf(headers, uint64(number)); got != want {
				t.Fatalf("P5: by %v word %d belongs to %v, want %v", headers, number, got, want)
			}
		}
	}
}
