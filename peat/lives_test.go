package peat_test

import (
	"fmt"
	"math/rand"
	"slices"
	"testing"

	"peat/api"
	"peat/peat"
)

// planned: a memory of these words, the power going behind so many acts; any lines are put down ahead of that.
func planned(random *rand.Rand, words []uint64, left int) *api.Memory {
	m := api.NewMemory(words)
	m.Plan(left, evictions(random, 150, len(words)/8+1))
	return m
}

// lives: of one memory, each begun with what the one ahead has left.
type lives struct {
	t       *testing.T
	random  *rand.Rand
	words   []uint64
	behind  int // how many blocks were kept that no root points to
	formats int // how many times the power went in Format
}

// live: the memory is formatted, if it is no heap or now and then, opened, and walked on for so many steps, or until the power goes: it may go in each of these. It tells whether it has gone.
func (l *lives) live(left, steps int) bool {
	l.t.Helper()
	m := planned(l.random, l.words, left)
	if l.words[0] != api.Magic || l.random.Intn(6) == 0 {
		if l.format(m); m.Gone() {
			return true
		}
	}
	w := openWalker(l.t, l.random, m)
	for i := 0; i < steps && !m.Gone(); i++ {
		w.step()
	}
	l.words = m.Image()
	l.behind += w.checkLeft(l.words)
	return m.Gone()
}

func (l *lives) format(m *api.Memory) {
	l.t.Helper()
	was := l.words
	peat.Format(m)
	l.words = m.Image()
	if !slices.Equal(l.words[32:], was[32:]) {
		l.t.Fatalf("P4: Format has changed a word from 32 on")
	}
	if m.Gone() {
		l.formats++
		if !checkFormatCrash(l.t, api.NewMemory(was), m) {
			l.t.Fatalf("P3: the power goes in Format of %v: %v is left", was, l.words)
		}
	}
}

// Long walks, the power going somewhere in each of them. Each walk's Allocs are held against the model, so that what was not come to is seen to be given out again.
func TestP10StepsWhileThePowerGoes(t *testing.T) {
	random := rand.New(rand.NewSource(9))
	behind, formats := 0, 0
	for range 400 {
		l := &lives{t: t, random: random, words: someHeap(random)}
		for range 8 {
			l.live(random.Intn(150), 1000)
		}
		behind += l.behind
		formats += l.formats
	}
	if behind < 2000 || formats < 100 {
		t.Errorf("only %d blocks were kept by persisted words, and %d Formats cut off: the walks are too poor to try that on", behind, formats)
	}
}

// Short walks, the power going at every act of each; then what is left is used on, and the power goes again.
func TestP10EveryActOfAWalk(t *testing.T) {
	for seed := range int64(150) {
		for left := 0; ; left++ {
			random := rand.New(rand.NewSource(seed))
			l := &lives{t: t, random: random, words: someHeap(random)}
			if !l.live(left, 12) {
				break
			}
			l.live(random.Intn(25), 12)
			l.live(random.Intn(25), 12)
		}
	}
}

// story: small blocks that share a line lead to one another and to a great one; they are led away from, given back and given out again in another size.
func (w *walker) story() {
	w.t.Helper()
	great, small, beside := w.alloc(40), w.alloc(2), w.alloc(1)
	w.store(great+33, uint64(beside))
	w.persist(great+33, 1)
	w.store(small, uint64(great+50))
	w.persist(small, 1)
	w.setRoot(0, uint64(small+1))
	w.store(beside, 7)
	w.persist(beside, 2)
	w.store(small, 0)
	w.store(small+1, uint64(beside))
	w.persist(small, 2)
	w.free(great)
	w.setRoot(5, uint64(w.alloc(16)))
	w.free(beside)
	w.store(w.alloc(2), uint64(small))
}

// The power goes at every act of a story; ahead of that each line, one at a time, is put down of the memory's own accord, at every time. Some of what is left is used on, and the power goes again.
func TestP10EveryActOfAStory(t *testing.T) {
	random := rand.New(rand.NewSource(15))
	empty := heapWords(3, nil)
	for left, gone := 0, true; gone; left++ {
		for act := range left + 1 {
			for line := range len(empty) / api.Line {
				m := api.NewMemory(empty)
				m.Plan(left, []api.Evict{{Acts: act, Line: line}})
				w := openWalker(t, random, m)
				w.story()
				gone = m.Gone()
				d := m.Image()
				w.checkLeft(d)
				if random.Intn(16) == 0 {
					l := &lives{t: t, random: random, words: d}
					l.live(random.Intn(40), 8)
				}
			}
		}
	}
}

// Several heaps are walked by turns, and the power of each goes at times of its own: none disturbs another.
func TestP2HeapsWhosePowerGoes(t *testing.T) {
	random := rand.New(rand.NewSource(16))
	walkers := make([]*walker, 5)
	for i := range walkers {
		walkers[i] = openWalker(t, random, planned(random, someHeap(random), random.Intn(150)))
	}
	for range 30000 {
		i := random.Intn(len(walkers))
		w := walkers[i]
		if w.m.Gone() {
			d := w.m.Image()
			w.checkLeft(d)
			walkers[i] = openWalker(t, random, planned(random, d, random.Intn(150)))
			continue
		}
		if w.step(); !w.m.Gone() {
			w.check()
		}
	}
}

// Heaps are used at the same time, each by one goroutine.
func TestP2HeapsSideBySide(t *testing.T) {
	for seed := range int64(8) {
		t.Run(fmt.Sprint(seed), func(t *testing.T) {
			t.Parallel()
			random := rand.New(rand.NewSource(seed))
			l := &lives{t: t, random: random, words: someHeap(random)}
			for range 40 {
				l.live(random.Intn(100), 100)
			}
		})
	}
}

// Lists of several heaps and times are written full, up to their spare room: no other list and no later answer is changed.
func TestP2ListsOfSeveralHeaps(t *testing.T) {
	random := rand.New(rand.NewSource(17))
	walkers := []*walker{newWalker(t, random, someHeap(random)), newWalker(t, random, someHeap(random)), newWalker(t, random, someHeap(random))}
	lists, copies := make([][]api.Block, 20), make([][]api.Block, 20)
	for range 5000 {
		w := walkers[random.Intn(len(walkers))]
		w.step()
		i := random.Intn(len(lists))
		spoil(lists[i])
		lists[i] = w.h.Blocks()
		copies[i] = slices.Clone(lists[i])
		if !slices.Equal(lists[i], w.blocks) {
			t.Fatalf("P2: Blocks() = %v, want %v", lists[i], w.blocks)
		}
		for k, list := range lists {
			if !slices.Equal(list, copies[k]) {
				t.Fatalf("P2: another list was written into, and this one is %v, was %v", list, copies[k])
			}
		}
	}
}
