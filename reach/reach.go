// Package reach: what is come to from the roots of a heap.
package reach

import (
	"maps"
	"sync"

	"peat/api"
	"peat/layout"
)

// FromRoots: the blocks that are come to by the words of a whole heap, each with how many words it has.
func FromRoots(words []uint64) map[layout.Place]int {
	found := make([]map[layout.Place]int, api.Roots)
	var seekers sync.WaitGroup
	for root := range found {
		seekers.Add(1)
		go func() {
			defer seekers.Done()
			found[root] = from(words, words[api.AtRoots+root])
		}()
	}
	seekers.Wait()
	known := map[layout.Place]int{}
	for _, blocks := range found {
		maps.Copy(known, blocks)
	}
	return known
}

// from: a block is gone into only when it is met first, so that rings of pointers come to an end.
func from(words []uint64, root uint64) map[layout.Place]int {
	chunks, _ := layout.Chunks(len(words))
	headers := words[api.AtHeaders : api.AtHeaders+chunks]
	known := map[layout.Place]int{}
	waiting := []uint64{root}
	for len(waiting) > 0 {
		last := len(waiting) - 1
		block := layout.BlockOf(headers, waiting[last])
		waiting = waiting[:last]
		if block.Kind == layout.NoBlock || known[block.Place] != 0 {
			continue
		}
		known[block.Place] = block.Words
		at := block.Place.At()
		waiting = append(waiting, words[at:at+block.Words]...)
	}
	return known
}
