package nvram_test

import (
	"encoding/binary"
	"hash/crc32"
	"math"
	"math/rand"
	"slices"

	"alidade/api"
)

// The model lays words by encoding/binary, sums by hash/crc32, and writes a record word by word.

// modelCommit is the word that is written last.
func modelCommit(words []int64) int64 {
	b := []byte{}
	for _, word := range words {
		b = binary.BigEndian.AppendUint64(b, uint64(word))
	}
	return int64(crc32.ChecksumIEEE(b)) + 4294967296
}

// sealed is a slot of words and their Commit, whole if their first one is a number.
func sealed(words ...int64) api.Slot {
	return api.Slot{Words: words, Commit: modelCommit(words)}
}

// modelNewest is the place of the newest whole slot, and its number; -1, if there is none.
func modelNewest(n api.Nv) (int, int64) {
	place, number := -1, int64(-1)
	for i, s := range n.Slots {
		if len(s.Words) == 0 || s.Commit != modelCommit(s.Words) {
			continue
		}
		if first := s.Words[0]; first > number && first <= 4611686018427387904 {
			place, number = i, first
		}
	}
	return place, number
}

// modelRead is what is kept.
func modelRead(n api.Nv) ([]int64, int64, bool) {
	place, number := modelNewest(n)
	if place < 0 {
		return nil, 0, false
	}
	return n.Slots[place].Words[1:], number, true
}

// modelTorn writes so many words of a record, one by one.
func modelTorn(n api.Nv, words []int64, done int) (api.Nv, api.Errno) {
	newest, number := modelNewest(n)
	if len(words) > 600 || number == 4611686018427387904 {
		return n, api.ErrBig
	}
	place := 0
	if newest == 0 {
		place = 1
	}
	all := append([]int64{max(number, 0) + 1}, words...)
	slot := &n.Slots[place]
	steps := []func(){func() { slot.Commit = 0 }, func() { slot.Words = []int64{all[0]} }}
	for _, word := range words {
		steps = append(steps, func() { slot.Words = append(slot.Words, word) })
	}
	steps = append(steps, func() { slot.Commit = modelCommit(all) })
	for i, step := range steps {
		if i < done {
			step()
		}
	}
	return n, api.OK
}

// modelWrite writes all words of a record.
func modelWrite(n api.Nv, words []int64) (api.Nv, api.Errno) {
	return modelTorn(n, words, math.MaxInt)
}

// modelSame tells whether two stores are the same, by all their words in a row, with how many there are ahead.
func modelSame(a, b api.Nv) bool {
	inRow := func(n api.Nv) []int64 {
		var row []int64
		for _, s := range n.Slots {
			row = append(row, s.Commit, int64(len(s.Words)))
			row = append(row, s.Words...)
		}
		return row
	}
	return slices.Compare(inRow(a), inRow(b)) == 0
}

// twin is a store in another memory.
func twin(n api.Nv) api.Nv {
	for i := range n.Slots {
		n.Slots[i].Words = slices.Clone(n.Slots[i].Words)
	}
	return n
}

// edgeWords are words at the ends, and such as numbers and Commits are.
var edgeWords = []int64{0, 1, -1, 2, 255, 256, 1 << 31, 1 << 32, 1<<32 + 1, 1<<62 - 1, 1 << 62, 1<<62 + 1, math.MaxInt64, math.MinInt64}

// someWord is a word: one of the edges, or of some size.
func someWord(source *rand.Rand) int64 {
	if source.Intn(4) == 0 {
		return edgeWords[source.Intn(len(edgeWords))]
	}
	return int64(source.Uint64()) >> source.Intn(64)
}

// someRow is a row of n words.
func someRow(source *rand.Rand, n int) []int64 {
	row := make([]int64, n)
	for i := range row {
		row[i] = someWord(source)
	}
	return row
}

// wholeSlots are whole slots, with numbers at the ends and between, and of all lengths.
func wholeSlots() []api.Slot {
	source := rand.New(rand.NewSource(1))
	var list []api.Slot
	for _, number := range []int64{0, 1, 2, 3, 1 << 32, 1<<62 - 2, 1<<62 - 1, 1 << 62} {
		list = append(list, sealed(number), sealed(append([]int64{number}, someRow(source, 1+source.Intn(9))...)...))
	}
	for _, long := range []int{10, 600, 601, 2000} {
		list = append(list, sealed(append([]int64{5}, someRow(source, long)...)...))
	}
	return list
}

// brokenSlots are slots that aren't whole.
func brokenSlots() []api.Slot {
	list := []api.Slot{{}, {Words: []int64{}}, {Commit: 1}, {Commit: 1 << 32}, {Words: []int64{}, Commit: 1 << 32}, {Words: []int64{5, 6}}}
	for _, number := range []int64{-1, -2, 1<<62 + 1, math.MaxInt64, math.MinInt64, -1 << 62} {
		list = append(list, sealed(number), sealed(number, 7))
	}
	for _, s := range wholeSlots()[:6] {
		for _, off := range []int64{1, -1, 1 << 31, 1 << 32, -1 << 32, 1 << 33, math.MinInt64} {
			list = append(list, api.Slot{Words: s.Words, Commit: s.Commit + off})
		}
		list = append(list, api.Slot{Words: s.Words}, api.Slot{Words: append([]int64{s.Words[0]}, s.Words...), Commit: s.Commit})
	}
	return list
}

// stores goes through stores of each two of these slots.
func stores(check func(n api.Nv)) {
	slots := append(wholeSlots(), brokenSlots()...)
	for _, s := range slots {
		for _, t := range slots {
			check(api.Nv{Slots: [2]api.Slot{s, t}})
		}
	}
}

// fewStores goes through stores of each two of a few slots of each sort.
func fewStores(check func(n api.Nv)) {
	slots := []api.Slot{{}, {Words: []int64{5, 6}}, {Words: []int64{9}, Commit: 1}, sealed(-1, 7), sealed(1<<62 + 1), sealed(0), sealed(1, 8, 9), sealed(1, 7), sealed(2, 3, 4, 5), sealed(1<<62-1, 1), sealed(1<<62, 2)}
	for _, s := range slots {
		for _, t := range slots {
			check(api.Nv{Slots: [2]api.Slot{s, t}})
		}
	}
}

// kept are words to be kept, of lengths to the greatest one that may be, and beyond.
func kept() [][]int64 {
	source := rand.New(rand.NewSource(2))
	list := [][]int64{nil, {}, {0}, {1}, {-1}, {1 << 62}, {math.MinInt64, math.MaxInt64}, {0, 0, 0}}
	for _, long := range []int{2, 5, 10, 599, 600, 601, 602, 1000} {
		list = append(list, someRow(source, long))
	}
	return list
}

// dones are counts of words that were written: all that may be, if they aren't many, and beyond.
func dones(words []int64) []int {
	all := len(words) + 3
	list := []int{math.MinInt, math.MinInt + 1, -600, -2, -1, all + 1, all + 2, all + 700, math.MaxInt - 1, math.MaxInt}
	for done := range all + 1 {
		if done < 8 || done > all-4 || done%100 == 0 {
			list = append(list, done)
		}
	}
	return list
}
