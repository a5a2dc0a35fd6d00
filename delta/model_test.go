package delta_test

import (
	"math"
	"math/big"
	"math/rand"
	"slices"

	"alidade/api"
)

// The model tells masks by whole numbers of any size, and rows by the places of their words.

// longs are lengths of rows: at the ends, and where a mask gets another word.
var longs = []int{0, 1, 2, 3, 7, 8, 9, 59, 60, 61, 62, 119, 120, 121, 179, 180, 181, 539, 540, 541, 599, 600}

// edgeWords are words at the ends, and such as a mask is of.
var edgeWords = []int64{0, 1, -1, 2, 3, 1 << 31, 1 << 32, 1 << 59, 1<<60 - 1, 1 << 60, math.MaxInt64, math.MinInt64}

// masks is how many words the mask of a row of n words has.
func masks(n int) int {
	count := 0
	for 60*count < n {
		count++
	}
	return count
}

// cutMask is a whole number as a mask of a row of n words.
func cutMask(bits *big.Int, n int) []int64 {
	var mask []int64
	left, base := new(big.Int).Set(bits), big.NewInt(1<<60)
	for range masks(n) {
		word := new(big.Int)
		left.DivMod(left, base, word)
		mask = append(mask, word.Int64())
	}
	return mask
}

// modelDiff is the delta of two rows of one length.
func modelDiff(base, now []int64) []int64 {
	bits, words := new(big.Int), []int64{}
	for i := range now {
		if now[i] != base[i] {
			bits.SetBit(bits, i, 1)
			words = append(words, now[i])
		}
	}
	return append(cutMask(bits, len(now)), words...)
}

// places are the places of the words that a mask tells, -1 for each bit that no word has.
func places(mask []int64, n int) []int {
	var list []int
	for j, word := range mask {
		for i := range 64 {
			if uint64(word)&(uint64(1)<<i) == 0 {
				continue
			}
			if i >= 60 || 60*j+i >= n {
				list = append(list, -1)
				continue
			}
			list = append(list, 60*j+i)
		}
	}
	return list
}

// modelApply is the row of a delta, or what is wrong with it.
func modelApply(base, d []int64) ([]int64, api.Errno) {
	if len(base) > 600 {
		return nil, api.ErrBig
	}
	long := masks(len(base))
	if len(d) < long {
		return nil, api.ErrMore
	}
	list, words := places(d[:long], len(base)), d[long:]
	if slices.Contains(list, -1) || len(list) != len(words) {
		return nil, api.ErrForm
	}
	row := slices.Clone(base)
	for i, place := range list {
		if words[i] == base[place] {
			return nil, api.ErrForm
		}
		row[place] = words[i]
	}
	return row, api.OK
}

// modelParts are a row's parts, word by word.
func modelParts(l []int64) [][8]int64 {
	var parts [][8]int64
	for i, word := range l {
		if i%8 == 0 {
			parts = append(parts, [8]int64{})
		}
		parts[i/8][i%8] = word
	}
	return parts
}

// someWord is a word: one of the edges, or of some size.
func someWord(source *rand.Rand) int64 {
	if source.Intn(4) == 0 {
		return edgeWords[source.Intn(len(edgeWords))]
	}
	return int64(source.Uint64()) >> source.Intn(64)
}

// someRow is a row of n words.
func someRow(source *rand.Rand, n int) []int64 {
	row := make([]int64, n)
	for i := range row {
		row[i] = someWord(source)
	}
	return row
}

// changed is a row like another one, where one word of so many is an other one.
func changed(source *rand.Rand, base []int64, oneOf int) []int64 {
	row := slices.Clone(base)
	for i := range row {
		if source.Intn(oneOf) == 0 {
			row[i] ^= 1 << source.Intn(64)
		}
	}
	return row
}

// rows goes through two rows of all of longs' lengths: the same, all other ones, a few other ones, one other one.
func rows(check func(source *rand.Rand, base, now []int64)) {
	source := rand.New(rand.NewSource(9))
	for _, n := range longs {
		base := someRow(source, n)
		check(source, base, base)
		check(source, make([]int64, n), base)
		check(source, base, make([]int64, n))
		for _, oneOf := range []int{1, 2, 5, 50} {
			for range 10 {
				check(source, base, changed(source, base, oneOf))
			}
		}
		for i := range base {
			now := slices.Clone(base)
			now[i] = ^now[i]
			check(source, base, now)
		}
	}
}
