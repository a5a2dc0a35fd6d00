package link_test

import (
	"math"
	"math/big"
	"math/rand"
	"slices"

	"alidade/api"
)

// The model reckons in whole numbers of any size, and takes words one by one.

// edges are numbers at the ends of what may be, and about a window.
var edges = []int64{math.MinInt64, -1 << 62, -2, -1, 0, 1, 2, 3, 4, 7, 8, 9, 16, 1<<62 - 17, 1<<62 - 16, 1<<62 - 9, 1<<62 - 8, 1<<62 - 7, 1<<62 - 1, 1 << 62, 1<<62 + 1, math.MaxInt64}

// top is 2^62.
var top = new(big.Int).Lsh(big.NewInt(1), 62)

// isIn tells whether a number is from least to 2^62 less off.
func isIn(n, least, off int64) bool {
	last := new(big.Int).Sub(top, big.NewInt(off))
	return big.NewInt(n).Cmp(big.NewInt(least)) >= 0 && big.NewInt(n).Cmp(last) <= 0
}

// modelRight tells whether an end is right.
func modelRight(l api.Link) bool {
	return isIn(l.Own, 1, 0) && isIn(l.Other, 0, 0) && isIn(l.First, 0, 0) && isIn(l.Next, 0, 0) && len(l.Sent) < 9
}

// modelTakes tells whether a packet isn't let go.
func modelTakes(l api.Link, p api.Packet) bool {
	whose := isIn(p.From, 1, 0) && big.NewInt(p.From).Cmp(big.NewInt(l.Other)) >= 0
	whom := slices.Contains([]int64{0, l.Own}, p.To)
	return whose && whom && isIn(p.Place, 0, 8) && isIn(p.Wait, 0, 0) && len(p.Words) < 9
}

// modelHeard is an end behind what was waited for there, word by word.
func modelHeard(l api.Link, wait int64) api.Link {
	for n, left := l.First, l.Sent; ; n, left = n+1, left[1:] {
		if n == wait {
			l.First, l.Sent = n, left
			return l
		}
		if len(left) == 0 {
			return l
		}
	}
}

// modelIn is an end behind a packet, and what is told then.
func modelIn(l api.Link, p api.Packet) (api.Link, []int64) {
	if !modelTakes(l, p) {
		return l, nil
	}
	if l.Other != p.From {
		l = api.Link{Own: l.Own, Other: p.From, Sent: l.Sent}
	}
	if p.To == l.Own {
		l = modelHeard(l, p.Wait)
	}
	var told []int64
	for i, word := range p.Words {
		if p.Place+int64(i) == l.Next {
			told = append(told, word)
			l.Next++
		}
	}
	return l, told
}

// sameEnds tells whether two ends are the same, by all their words in a row.
func sameEnds(a, b api.Link) bool {
	inRow := func(l api.Link) []int64 {
		return append([]int64{l.Own, l.Other, l.First, l.Next}, l.Sent...)
	}
	return slices.Equal(inRow(a), inRow(b))
}

// twin is an end in other memory.
func twin(l api.Link) api.Link {
	l.Sent = slices.Clone(l.Sent)
	return l
}

// someEdge is a number about the edges, or some other one.
func someEdge(source *rand.Rand) int64 {
	if source.Intn(6) == 0 {
		return int64(source.Uint64())
	}
	return edges[source.Intn(len(edges))]
}

// someRow is a row of words.
func someRow(source *rand.Rand, long int) []int64 {
	row := make([]int64, long)
	for i := range row {
		row[i] = someEdge(source)
	}
	return row
}

// place is a place that may be, about the edges.
func place(source *rand.Rand) int64 {
	for {
		if n := someEdge(source); n >= 0 && n <= 1<<62 {
			return n
		}
	}
}

// someEnd is an end that is right.
func someEnd(source *rand.Rand) api.Link {
	return api.Link{Own: max(1, place(source)), Other: place(source), First: place(source), Next: place(source), Sent: someRow(source, source.Intn(9))}
}

// oddEnd is an end that mostly isn't right.
func oddEnd(source *rand.Rand) api.Link {
	l := someEnd(source)
	for _, n := range []*int64{&l.Own, &l.Other, &l.First, &l.Next} {
		if source.Intn(3) == 0 {
			*n = someEdge(source)
		}
	}
	if source.Intn(3) == 0 {
		l.Sent = someRow(source, source.Intn(30))
	}
	return l
}

// somePacket is a packet that an end may well take: each of its numbers is near the end's own one.
func somePacket(source *rand.Rand, l api.Link) api.Packet {
	near := func(n int64, way int) int64 {
		if source.Intn(8) == 0 {
			return someEdge(source)
		}
		return n + int64(source.Intn(2*way+1)-way)
	}
	p := api.Packet{From: near(l.Other, 1), To: l.Own, Place: near(l.Next, 10), Wait: near(l.First+int64(len(l.Sent)), 10)}
	p.Words = someRow(source, source.Intn(9))
	if source.Intn(3) == 0 {
		p.Place, p.Wait = near(4, 5), near(4, 5)
	}
	switch source.Intn(12) {
	case 0, 1:
		p.To = 0
	case 2:
		p.To = near(l.Own, 1)
	case 3:
		p.Words = someRow(source, 9+source.Intn(4))
	}
	return p
}
