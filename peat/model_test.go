package peat_test

import (
	"slices"

	"peat/api"
)

// The document's section 'Words', word for word and without any skill: the tests hold the program against it.

// modelBelongs: the block that word at belongs to; Words is 0, if there is none.
func modelBelongs(d []uint64, at uint64) api.Block {
	if at < api.FirstData || at >= uint64(len(d)) {
		return api.Block{}
	}
	c := (int(at) - api.FirstData) / api.Chunk
	begin := api.FirstData + c*api.Chunk
	switch h := d[api.AtHeaders+c]; h {
	case 1, 2, 3, 4:
		size := []int{0, 2, 4, 8, 16}[h]
		for b := begin; ; b += size {
			if int(at) < b+size {
				return api.Block{At: b, Words: size}
			}
		}
	case api.Tail:
		for ahead := c - 1; ahead >= 0; ahead-- {
			if d[api.AtHeaders+ahead] != api.Tail {
				if k := modelGreat(d, ahead); c < ahead+k {
					return api.Block{At: api.FirstData + ahead*api.Chunk, Words: k * api.Chunk}
				}
				break
			}
		}
	default:
		if k := modelGreat(d, c); k > 0 {
			return api.Block{At: begin, Words: k * api.Chunk}
		}
	}
	return api.Block{}
}

// modelGreat: of how many chunks a whole great block begins in chunk c.
func modelGreat(d []uint64, c int) int {
	n := len(d)/api.Chunk - 1
	for k := 1; c+k <= n; k++ {
		if d[api.AtHeaders+c] == uint64(api.Head+k) {
			return k
		}
		if c+k < n && d[api.AtHeaders+c+k] != api.Tail {
			break
		}
	}
	return 0
}

// modelBlocks: what is come to, rising: all that is known is gone through until nothing comes to it any more.
func modelBlocks(d []uint64) []api.Block {
	known := make([]int, len(d))
	more := true
	come := func(v uint64) {
		if b := modelBelongs(d, v); b.Words > 0 && known[b.At] == 0 {
			known[b.At], more = b.Words, true
		}
	}
	for more {
		more = false
		for r := range api.Roots {
			come(d[api.AtRoots+r])
		}
		for at, words := range known {
			for i := range words {
				come(d[at+i])
			}
		}
	}
	var list []api.Block
	for at, words := range known {
		if words > 0 {
			list = append(list, api.Block{At: at, Words: words})
		}
	}
	return list
}

// modelUse: for each chunk how many words its blocks have; 0, if it has none.
func modelUse(blocks []api.Block, chunks int) []int {
	use := make([]int, chunks)
	for _, b := range blocks {
		for at := b.At; at < b.At+b.Words; at++ {
			use[(at-api.FirstData)/api.Chunk] = b.Words
		}
	}
	return use
}

// modelRoom: every block that Alloc may answer beside these; the error, if there is none.
func modelRoom(blocks []api.Block, chunks, words int) ([]api.Block, api.Errno) {
	if words < 1 || words > api.Chunk*chunks {
		return nil, api.ErrSize
	}
	use := modelUse(blocks, chunks)
	if words > api.MaxSmall {
		return modelGreatRoom(use, words)
	}
	size := 2
	for size < words {
		size += size
	}
	var room []api.Block
	for c, u := range use {
		for i := 0; i < api.Chunk && (u == 0 || u == size); i += size {
			b := api.Block{At: api.FirstData + c*api.Chunk + i, Words: size}
			if !slices.Contains(blocks, b) {
				room = append(room, b)
			}
		}
	}
	if len(room) == 0 {
		return nil, api.ErrSpace
	}
	return room, api.OK
}

func modelGreatRoom(use []int, words int) ([]api.Block, api.Errno) {
	k := 1
	for k*api.Chunk < words {
		k++
	}
	for c := 0; c+k <= len(use); c++ {
		if !slices.ContainsFunc(use[c:c+k], func(u int) bool { return u != 0 }) {
			return []api.Block{{At: api.FirstData + c*api.Chunk, Words: k * api.Chunk}}, api.OK
		}
	}
	return nil, api.ErrSpace
}

// modelWhole: does every word of every one of these blocks belong to it, by d's headers?
func modelWhole(d []uint64, blocks []api.Block) bool {
	for _, b := range blocks {
		for at := b.At; at < b.At+b.Words; at++ {
			if modelBelongs(d, uint64(at)) != b {
				return false
			}
		}
	}
	return true
}

// modelIn: is the word in one of these blocks?
func modelIn(blocks []api.Block, at int) bool {
	return slices.ContainsFunc(blocks, func(b api.Block) bool { return at >= b.At && at < b.At+b.Words })
}

// modelBegins: does one of these blocks begin at the word?
func modelBegins(blocks []api.Block, at int) bool {
	return slices.ContainsFunc(blocks, func(b api.Block) bool { return at == b.At })
}

// modelPersist: what Persist answers beside these blocks: each of the words is looked for by itself.
func modelPersist(blocks []api.Block, at, words int) api.Errno {
	if words < 1 {
		return api.ErrSize
	}
	first := slices.IndexFunc(blocks, func(b api.Block) bool { return modelIn([]api.Block{b}, at) })
	for i := range words {
		if first < 0 || !modelIn(blocks[first:first+1], at+i) {
			return api.ErrBlock
		}
	}
	return api.OK
}
