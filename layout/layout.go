// Package layout: what the first words of a heap say of the others: how long it is, what its headers mean, and where a word belongs.
package layout

import "peat/api"

// HeaderKind: what a header says of its chunk. The kinds of small blocks are counted as their headers are, so that one is turned into the other as it is.
type HeaderKind int

const (
	HeaderFree HeaderKind = iota
	HeaderTwo
	HeaderFour
	HeaderEight
	HeaderSixteen
	HeaderHead
	HeaderTail
)

// BlockKind: NoBlock stands first, so that the zero Block is none.
type BlockKind int

const (
	NoBlock BlockKind = iota
	SmallBlock
	GreatBlock
)

// Place: a chunk, and a word in it counted from the chunk's first.
type Place struct {
	Chunk, Word int
}

// Block: where it begins, and how many words it has.
type Block struct {
	Kind  BlockKind
	Place Place
	Words int
}

// At: the place as the number of a word of the memory.
func (p Place) At() int {
	return api.FirstData + p.Chunk*api.Chunk + p.Word
}

// Words: how many words a heap of so many chunks has; false, if there is no such heap.
func Words(chunks int) (int, bool) {
	if chunks < 1 || chunks > api.MaxChunks {
		return 0, false
	}
	return api.FirstData + chunks*api.Chunk, true
}

// Chunks: how many chunks a heap of so many words has; false, if there is no such heap.
func Chunks(words int) (int, bool) {
	chunks := words/api.Chunk - api.FirstData/api.Chunk
	if whole, ok := Words(chunks); !ok || whole != words {
		return 0, false
	}
	return chunks, true
}

// Fit: a block of the least size that is enough for so many words, one at least; it has no place yet.
func Fit(words int) Block {
	if words > api.MaxSmall {
		chunks := (words + api.Chunk - 1) / api.Chunk
		return Block{Kind: GreatBlock, Words: chunks * api.Chunk}
	}
	return Block{Kind: SmallBlock, Words: 1 << smallKind(words)}
}

// Headers: what the headers of a block's chunks must be, so that its words belong to it.
func Headers(block Block) []uint64 {
	if block.Kind == SmallBlock {
		return []uint64{uint64(smallKind(block.Words))}
	}
	chunks := block.Words / api.Chunk
	headers := []uint64{api.Head + uint64(chunks)}
	for len(headers) < chunks {
		headers = append(headers, api.Tail)
	}
	return headers
}

// smallKind: the kind of the least small blocks that are enough for so many words.
func smallKind(words int) HeaderKind {
	kind := HeaderTwo
	for 1<<kind < words {
		kind++
	}
	return kind
}

// KindOf: a number that is no header counts as Free.
func KindOf(header uint64) HeaderKind {
	switch {
	case header >= uint64(HeaderTwo) && header <= uint64(HeaderSixteen):
		return HeaderKind(header)
	case header == api.Tail:
		return HeaderTail
	case header > api.Head:
		return HeaderHead
	}
	return HeaderFree
}

// BlockOf: the block that a word belongs to by these headers, one for each chunk. Whatever number stands in a word may be asked for.
func BlockOf(headers []uint64, number uint64) Block {
	end := uint64(api.FirstData + len(headers)*api.Chunk)
	if number < api.FirstData || number >= end {
		return Block{}
	}
	data := int(number) - api.FirstData
	place := Place{Chunk: data / api.Chunk, Word: data % api.Chunk}
	switch kind := KindOf(headers[place.Chunk]); kind {
	case HeaderFree:
		return Block{}
	case HeaderHead, HeaderTail:
		return greatBlock(headers, place.Chunk)
	default:
		return smallBlock(kind, place)
	}
}

func smallBlock(kind HeaderKind, place Place) Block {
	words := 1 << kind
	place.Word -= place.Word % words
	return Block{Kind: SmallBlock, Place: place, Words: words}
}

// greatBlock: the great block that a chunk is a part of, as its first chunk or as a later one.
func greatBlock(headers []uint64, chunk int) Block {
	first := chunk
	for first > 0 && KindOf(headers[first]) == HeaderTail {
		first--
	}
	chunks := greatChunks(headers, first)
	if chunk-first >= chunks {
		return Block{}
	}
	return Block{Kind: GreatBlock, Place: Place{Chunk: first}, Words: chunks * api.Chunk}
}

// greatChunks: how many chunks the great block has that begins in this chunk; 0, if none does or a part of it is missing.
func greatChunks(headers []uint64, first int) int {
	if KindOf(headers[first]) != HeaderHead {
		return 0
	}
	// Held against what is left, not added to first: the number may be so great that a sum would wrap round.
	chunks := headers[first] - api.Head
	if chunks > uint64(len(headers)-first) {
		return 0
	}
	for _, header := range headers[first+1 : first+int(chunks)] {
		if KindOf(header) != HeaderTail {
			return 0
		}
	}
	return int(chunks)
}
