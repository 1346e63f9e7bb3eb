package room

import (
	"maps"
	"testing"

	"peat/layout"
)

// placeOf: the place of a word counted from the first chunk's first.
func placeOf(word int) layout.Place {
	return layout.Place{Chunk: word / 32, Word: word % 32}
}

func known(blocks map[int]int) map[layout.Place]int {
	list := map[layout.Place]int{}
	for word, words := range blocks {
		list[placeOf(word)] = words
	}
	return list
}

// full: a chunk full of blocks of two words.
func full() map[int]int {
	blocks := map[int]int{}
	for word := 0; word < 32; word += 2 {
		blocks[word] = 2
	}
	return blocks
}

func TestFind(t *testing.T) {
	const none = -1
	for name, c := range map[string]struct {
		blocks              map[int]int // words, by where each begins
		chunks, words, want int
	}{
		"nothing yet, small":         {nil, 1, 16, 0},
		"nothing yet, great":         {nil, 16, 512, 0},
		"beside one of its size":     {map[int]int{0: 4}, 2, 4, 4},
		"ahead of one of its size":   {map[int]int{40: 8}, 2, 8, 32},
		"between two":                {map[int]int{0: 2, 4: 2}, 1, 2, 2},
		"the last of a chunk":        {map[int]int{0: 16}, 1, 16, 16},
		"another size":               {map[int]int{0: 4}, 2, 2, 32},
		"a full chunk":               {full(), 2, 2, 32},
		"a full heap":                {full(), 1, 2, none},
		"another size alone":         {map[int]int{0: 4}, 1, 2, none},
		"a great one's later chunk":  {map[int]int{0: 64}, 2, 2, none},
		"behind a great one":         {map[int]int{0: 96}, 4, 16, 96},
		"great behind a great one":   {map[int]int{0: 64}, 3, 32, 64},
		"great ahead of a small one": {map[int]int{94: 2}, 3, 64, 0},
		"not in too short a gap":     {map[int]int{32: 2}, 4, 64, 64},
		"the first gap of two":       {map[int]int{0: 32, 96: 32}, 6, 64, 32},
		"enough, but not in one gap": {map[int]int{48: 16, 96: 32}, 5, 64, none},
		"no room for a great one":    {map[int]int{0: 2}, 1, 32, none},
	} {
		blocks := known(c.blocks)
		got, ok := Find(blocks, c.chunks, layout.Fit(c.words))
		if want := c.want != none; ok != want || ok && got != placeOf(c.want) || !ok && got != placeOf(0) {
			t.Errorf("P5: %s: %v, %v, want word %d", name, got, ok, c.want)
		}
		if !maps.Equal(blocks, known(c.blocks)) {
			t.Errorf("P5: %s: Find has changed what is known", name)
		}
	}
}
