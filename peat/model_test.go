package peat_test

import "peat/api"

// The document's section 'Words', word for word and without any skill: the tests hold the program against it.

// modelBelongs: the block that word at belongs to; Words is 0, if there is none.
func modelBelongs(d []uint64, at uint64) api.Block {
	if at < api.FirstData || at >= uint64(len(d)) {
		return api.Block{}
	}
	c := (int(at) - api.FirstData) / api.Chunk
	begin := api.FirstData + c*api.Chunk
	switch h := d[api.AtHeaders+c]; h {
	case 1, 2, 3, 4:
		size := []int{0, 2, 4, 8, 16}[h]
		for b := begin; ; b += size {
			if int(at) < b+size {
				return api.Block{At: b, Words: size}
			}
		}
	case api.Tail:
		for ahead := c - 1; ahead >= 0; ahead-- {
			if d[api.AtHeaders+ahead] != api.Tail {
				if k := modelGreat(d, ahead); c < ahead+k {
					return api.Block{At: api.FirstData + ahead*api.Chunk, Words: k * api.Chunk}
				}
				break
			}
		}
	default:
		if k := modelGreat(d, c); k > 0 {
			return api.Block{At: begin, Words: k * api.Chunk}
		}
	}
	return api.Block{}
}

// modelGreat: of how many chunks a whole great block begins in chunk c.
func modelGreat(d []uint64, c int) int {
	n := len(d)/api.Chunk - 1
	for k := 1; c+k <= n; k++ {
		if d[api.AtHeaders+c] == uint64(api.Head+k) {
			return k
		}
		if c+k < n && d[api.AtHeaders+c+k] != api.Tail {
			break
		}
	}
	return 0
}

// modelBlocks: what is come to, rising: all that is known is gone through until nothing comes to it any more.
func modelBlocks(d []uint64) []api.Block {
	known := make([]int, len(d))
	more := true
	come := func(v uint64) {
		if b := modelBelongs(d, v); b.Words > 0 && known[b.At] == 0 {
			known[b.At], more = b.Words, true
		}
	}
	for more {
		more = false
		for r := range api.Roots {
			come(d[api.AtRoots+r])
		}
		for at, words := range known {
			for i := range words {
				come(d[at+i])
			}
		}
	}
	var list []api.Block
	for at, words := range known {
		if words > 0 {
			list = append(list, api.Block{At: at, Words: words})
		}
	}
	return list
}
