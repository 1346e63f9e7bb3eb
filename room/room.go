// Package room: where there is room for a block beside those that are known.
package room

import (
	"slices"

	"peat/api"
	"peat/layout"
)

// Find: a place for a block that has none yet; false, if there is no room. The blocks are told each with how many words it has.
func Find(blocks map[layout.Place]int, chunks int, block layout.Block) (layout.Place, bool) {
	sizes := sizesOf(blocks, chunks)
	if block.Kind == layout.GreatBlock {
		return great(sizes, block.Words/api.Chunk)
	}
	return small(blocks, sizes, block.Words)
}

// sizesOf: how many words the blocks of each chunk have, 0 if it has none. All blocks of a chunk are of one size, so that the order in which they are met does not matter.
func sizesOf(blocks map[layout.Place]int, chunks int) []int {
	sizes := make([]int, chunks)
	for place, words := range blocks {
		sizes[place.Chunk] = words
		for behind := 1; behind < words/api.Chunk; behind++ {
			sizes[place.Chunk+behind] = words
		}
	}
	return sizes
}

// small takes a chunk without blocks only when those with blocks of that size are full, so that great blocks find room for longer.
func small(blocks map[layout.Place]int, sizes []int, words int) (layout.Place, bool) {
	for chunk, size := range sizes {
		for word := 0; size == words && word < api.Chunk; word += words {
			place := layout.Place{Chunk: chunk, Word: word}
			if blocks[place] == 0 {
				return place, true
			}
		}
	}
	chunk := slices.Index(sizes, 0)
	if chunk < 0 {
		return layout.Place{}, false
	}
	return layout.Place{Chunk: chunk}, true
}

func great(sizes []int, chunks int) (layout.Place, bool) {
	free := 0
	for chunk, size := range sizes {
		if size != 0 {
			free = 0
			continue
		}
		free++
		if free == chunks {
			return layout.Place{Chunk: chunk - chunks + 1}, true
		}
	}
	return layout.Place{}, false
}
