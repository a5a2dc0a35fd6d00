package ring_test

import (
	"math"
	"math/rand"
	"strconv"
	"strings"

	"alidade/api"
)

// The model knows a slot by the last digit of the place less 1, told in digits of 16; of a course it keeps all that was ever put.

// long is how many slots a ring has.
const long = 16

// edges are places at the ends of what may be, and about one round, and two.
var edges = []int64{math.MinInt64, math.MinInt64 + 1, -1 << 62, -33, -17, -16, -15, -2, -1, 0, 1, 2, 3, 4, 8, 15, 16, 17, 18, 19, 31, 32, 33, 34, 47, 48, 49, 1<<62 - 33, 1<<62 - 32, 1<<62 - 17, 1<<62 - 16, 1<<62 - 15, 1<<62 - 2, 1<<62 - 1, 1 << 62, 1<<62 + 1, 1<<62 + 2, 1<<62 + 15, 1<<62 + 16, 1<<62 + 17, math.MaxInt64 - 15, math.MaxInt64 - 1, math.MaxInt64}

// isPlace tells whether a place may be.
func isPlace(k int64) bool {
	return k > 0 && uint64(k-1)>>62 == 0
}

// modelSlot is the slot of a place that may be.
func modelSlot(k int64) int {
	digits := strconv.FormatInt(k-1, 16)
	return strings.IndexByte("0123456789abcdef", digits[len(digits)-1])
}

// put is a sample that was put at a place.
type put struct {
	k int64
	s api.Sample
}

// modelRing is what all that was put comes to: of each slot the greatest place, and of that what was put last.
func modelRing(all []put) api.Ring {
	var r api.Ring
	for i := range long {
		for _, p := range all {
			if isPlace(p.k) && modelSlot(p.k) == i && p.k >= r.Places[i] {
				r.Places[i], r.Samples[i] = p.k, p.s
			}
		}
	}
	return r
}

// puts are what a ring that is right has.
func puts(r api.Ring) []put {
	var all []put
	for i, k := range r.Places {
		if k != 0 {
			all = append(all, put{k, r.Samples[i]})
		}
	}
	return all
}

// modelGet is the sample at a place, and whether it is there.
func modelGet(r api.Ring, k int64) (api.Sample, bool) {
	for _, p := range puts(r) {
		if p.k == k {
			return p.s, true
		}
	}
	return api.Sample{}, false
}

// modelRight tells whether a ring is right, slot by slot.
func modelRight(r api.Ring) bool {
	for i, k := range r.Places {
		nothing := k == 0 && r.Samples[i] == api.Sample{}
		if !nothing && !(isPlace(k) && modelSlot(k) == i) {
			return false
		}
	}
	return true
}

// someEdge is a place about the edges, or some other one.
func someEdge(source *rand.Rand) int64 {
	switch source.Intn(8) {
	case 0:
		return int64(source.Uint64())
	case 1:
		return int64(source.Intn(100))
	}
	return edges[source.Intn(len(edges))]
}

// someSample is a sample; mostly with all kinds of numbers in it.
func someSample(source *rand.Rand) api.Sample {
	if source.Intn(10) == 0 {
		return api.Sample{}
	}
	q := func() api.Q { return api.Q(source.Uint64()) }
	yes := func() bool { return source.Intn(2) == 0 }
	vec := func() api.Vec { return api.Vec{q(), q(), q()} }
	return api.Sample{Missing: yes(), Gyro: vec(), Acc: vec(), HasBaro: yes(), Baro: q(), HasGnss: yes(), Gnss: vec()}
}

// somePlace is a place of a slot: of the first rounds, of the last ones, or of any.
func somePlace(source *rand.Rand, slot int) int64 {
	const rounds = 1 << 58
	round := source.Int63n(rounds)
	switch source.Intn(3) {
	case 0:
		round = int64(source.Intn(4))
	case 1:
		round = rounds - 1 - int64(source.Intn(4))
	}
	return round*long + int64(slot) + 1
}

// someRing is a ring that is right.
func someRing(source *rand.Rand) api.Ring {
	var r api.Ring
	empty := source.Intn(6)
	for i := range long {
		if source.Intn(6) >= empty {
			r.Places[i], r.Samples[i] = somePlace(source, i), someSample(source)
		}
	}
	return r
}

// oddRing is a ring that mostly isn't right.
func oddRing(source *rand.Rand) api.Ring {
	r := someRing(source)
	for range 1 + source.Intn(3) {
		i := source.Intn(long)
		switch source.Intn(5) {
		case 0:
			r.Places[i] = someEdge(source)
		case 1:
			r.Places[i] = 0
		case 2:
			r.Samples[i] = someSample(source)
		case 3:
			j := source.Intn(long)
			r.Places[i], r.Places[j] = r.Places[j], r.Places[i]
		case 4:
			r.Places[i] = -r.Places[i]
		}
	}
	return r
}

// alike is a ring that is right, and has some places of another one; of its own samples.
func alike(source *rand.Rand, other api.Ring) api.Ring {
	r := someRing(source)
	for i, k := range other.Places {
		if source.Intn(3) == 0 && k != 0 {
			r.Places[i], r.Samples[i] = k, someSample(source)
		}
	}
	return r
}

// places are those that a ring has, those about them, and the edges.
func places(r api.Ring) []int64 {
	all := append([]int64{}, edges...)
	for _, k := range r.Places {
		for _, off := range []int64{-32, -16, -1, 0, 1, 15, 16, 17, 32} {
			all = append(all, k+off)
		}
	}
	return all
}
