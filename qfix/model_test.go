package qfix

import (
	"math"
	"math/big"
	"math/rand"

	"alidade/api"
)

// The model reckons in whole numbers of any size, so that it shares no word, shift or sign with the package.

func whole(n int64) *big.Int { return big.NewInt(n) }

func modelClamp(n *big.Int) (api.Q, bool) {
	if n.Cmp(whole(int64(api.Top))) > 0 {
		return api.Top, true
	}
	if n.Cmp(whole(int64(api.Low))) < 0 {
		return api.Low, true
	}
	return api.Q(n.Int64()), false
}

// modelNearest is n by d (not 0), rounded: of two that are as near the even one.
func modelNearest(n, d *big.Int) *big.Int {
	if d.Sign() < 0 {
		n, d = new(big.Int).Neg(n), new(big.Int).Neg(d)
	}
	floor, rest := new(big.Int).DivMod(n, d, new(big.Int))
	side := rest.Lsh(rest, 1).Cmp(d)
	if side > 0 || side == 0 && floor.Bit(0) == 1 {
		return floor.Add(floor, whole(1))
	}
	return floor
}

// modelOf is what a call of two operands tells, if exact is what it reckons of operands in bounds.
func modelOf(a, b api.Q, exact func(a, b *big.Int) *big.Int) (api.Q, bool) {
	x, outX := modelClamp(whole(int64(a)))
	y, outY := modelClamp(whole(int64(b)))
	n, out := modelClamp(exact(whole(int64(x)), whole(int64(y))))
	return n, outX || outY || out
}

func modelAdd(a, b api.Q) (api.Q, bool) {
	return modelOf(a, b, func(a, b *big.Int) *big.Int { return a.Add(a, b) })
}

func modelSub(a, b api.Q) (api.Q, bool) {
	return modelOf(a, b, func(a, b *big.Int) *big.Int { return a.Sub(a, b) })
}

func modelMul(a, b api.Q) (api.Q, bool) {
	return modelOf(a, b, func(a, b *big.Int) *big.Int { return modelNearest(a.Mul(a, b), whole(1<<24)) })
}

func modelDiv(a, b api.Q) (api.Q, bool) {
	if b == 0 {
		switch {
		case a > 0:
			return api.Top, true
		case a < 0:
			return api.Low, true
		}
		return 0, true
	}
	return modelOf(a, b, func(a, b *big.Int) *big.Int { return modelNearest(a.Mul(a, whole(1<<24)), b) })
}

func modelSqrt(a api.Q) (api.Q, bool) {
	x, out := modelClamp(whole(int64(a)))
	if x < 0 {
		return 0, true
	}
	square := new(big.Int).Mul(whole(int64(x)), whole(1<<24))
	return api.Q(new(big.Int).Sqrt(square).Int64()), out
}

func modelHalf(n int64, by int) int64 {
	by = min(max(by, 0), 62)
	return modelNearest(whole(n), new(big.Int).Lsh(whole(1), uint(by))).Int64()
}

// edges are the numbers at which something changes, each with its neighbours and with either sign.
func edges() []int64 {
	var all []int64
	for _, n := range []int64{0, 3, 1 << 12, 1 << 22, 1 << 23, 1 << 24, 3 << 23, 5 << 23, 3 << 24, 1 << 35, 1 << 45, 1 << 46, 1 << 47, 1 << 62} {
		for near := int64(-2); near <= 2; near++ {
			all = append(all, n+near, -n+near)
		}
	}
	return append(all, math.MinInt64, math.MinInt64+1, math.MaxInt64-1, math.MaxInt64)
}

// mixed are numbers of all lengths, the same ones in each run.
func mixed(count int) []int64 {
	source := rand.New(rand.NewSource(1))
	all := make([]int64, count)
	for i := range all {
		all[i] = int64(source.Uint64()) >> source.Intn(64)
	}
	return all
}

// pairs calls do with each edge against each other one, and with mixed numbers.
func pairs(do func(a, b api.Q)) {
	for _, a := range edges() {
		for _, b := range edges() {
			do(api.Q(a), api.Q(b))
		}
	}
	all := mixed(40001)
	for i := range all[1:] {
		do(api.Q(all[i]), api.Q(all[i+1]))
	}
}

// singles calls do with each edge, and with mixed numbers.
func singles(do func(n int64)) {
	for _, n := range edges() {
		do(n)
	}
	for _, n := range mixed(20000) {
		do(n)
	}
}
