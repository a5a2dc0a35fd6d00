package quat_test

import (
	"math"
	"math/big"
	"math/rand"
	"strings"

	"alidade/api"
)

// The model reckons in whole numbers of any size, brings in bounds what the chapters say, and reads the chapter's table of products as text: it shares neither places nor signs nor qfix with the package.

const (
	one = 1 << 24
	top = 1<<46 - 1
	low = -1 << 46
)

// products is the table of P4.1, a line for each place.
const products = `ae -bf -cg -dh
af be ch -dg
ag -bh ce df
ah bg -cf de`

// reckoner keeps whether a bound was met on the way.
type reckoner struct{ met bool }

func whole(n api.Q) *big.Int { return big.NewInt(int64(n)) }

// bound is a number in bounds; what wasn't is kept.
func (r *reckoner) bound(n *big.Int) *big.Int {
	if n.Cmp(whole(top)) > 0 {
		r.met = true
		return whole(top)
	}
	if n.Cmp(whole(low)) < 0 {
		r.met = true
		return whole(low)
	}
	return n
}

// nearest is a number by another one, rounded: of two that are as near the even one.
func nearest(n, by *big.Int) *big.Int {
	if by.Sign() < 0 {
		n, by = new(big.Int).Neg(n), new(big.Int).Neg(by)
	}
	floor, rest := new(big.Int).DivMod(n, by, new(big.Int))
	side := rest.Lsh(rest, 1).Cmp(by)
	if side > 0 || side == 0 && floor.Bit(0) == 1 {
		floor.Add(floor, big.NewInt(1))
	}
	return floor
}

func (r *reckoner) mul(a, b *big.Int) *big.Int {
	return r.bound(nearest(new(big.Int).Mul(r.bound(a), r.bound(b)), big.NewInt(one)))
}

func (r *reckoner) add(a, b *big.Int) *big.Int {
	return r.bound(new(big.Int).Add(r.bound(a), r.bound(b)))
}

// less is 0 less a number.
func (r *reckoner) less(a *big.Int) *big.Int {
	return r.bound(new(big.Int).Neg(r.bound(a)))
}

// sumOf is the first one and the second one, that and the third one, that and the fourth one.
func (r *reckoner) sumOf(four [4]*big.Int) *big.Int {
	return r.add(r.add(r.add(four[0], four[1]), four[2]), four[3])
}

func (r *reckoner) quatMul(p, q api.Quat) api.Quat {
	letters := map[byte]*big.Int{}
	for i := range 4 {
		letters["abcd"[i]], letters["efgh"[i]] = whole(p[i]), whole(q[i])
	}
	var out api.Quat
	for place, line := range strings.Split(products, "\n") {
		var four [4]*big.Int
		for i, word := range strings.Fields(line) {
			pair := strings.TrimPrefix(word, "-")
			four[i] = r.mul(letters[pair[0]], letters[pair[1]])
			if pair != word {
				four[i] = r.less(four[i])
			}
		}
		out[place] = api.Q(r.sumOf(four).Int64())
	}
	return out
}

func (r *reckoner) conj(q api.Quat) api.Quat {
	out := q
	for _, place := range []int{1, 2, 3} {
		out[place] = api.Q(r.less(whole(q[place])).Int64())
	}
	return out
}

func (r *reckoner) norm(q api.Quat) *big.Int {
	var four [4]*big.Int
	for i, n := range q {
		four[i] = r.mul(whole(n), whole(n))
	}
	return r.sumOf(four)
}

func (r *reckoner) unit(q api.Quat) api.Quat {
	n := new(big.Int).Sqrt(new(big.Int).Mul(r.norm(q), big.NewInt(one)))
	if n.Sign() == 0 {
		r.met = true
		return api.Quat{one, 0, 0, 0}
	}
	var out api.Quat
	for i := range q {
		share := nearest(new(big.Int).Mul(r.bound(whole(q[i])), big.NewInt(one)), n)
		out[i] = api.Q(r.bound(share).Int64())
	}
	return out
}

func modelMul(p, q api.Quat) (api.Quat, bool) {
	var r reckoner
	out := r.quatMul(p, q)
	return out, r.met
}

func modelNorm(q api.Quat) (api.Q, bool) {
	var r reckoner
	out := r.norm(q)
	return api.Q(out.Int64()), r.met
}

func modelUnit(q api.Quat) (api.Quat, bool) {
	var r reckoner
	out := r.unit(q)
	return out, r.met
}

func modelTurn(q api.Quat, v api.Vec) (api.Vec, bool) {
	var r reckoner
	out := r.quatMul(r.quatMul(q, api.Quat{0, v[0], v[1], v[2]}), r.conj(q))
	return api.Vec{out[1], out[2], out[3]}, r.met
}

func modelSmall(v api.Vec, by api.Q) (api.Quat, bool) {
	var r reckoner
	half := nearest(whole(by), big.NewInt(2))
	turn := api.Quat{one, 0, 0, 0}
	for i, n := range v {
		turn[i+1] = api.Q(r.mul(whole(n), half).Int64())
	}
	out := r.unit(turn)
	return out, r.met
}

// edges are numbers at which something changes.
func edges() []api.Q {
	return []api.Q{
		0, 1, -1, 2896, 2897, -2897, one / 4, -one / 4, one / 2, one - 1, one, -one, 3 << 23, 512 * one, -512 * one,
		1 << 35, -1 << 35, top - 1, top, low, low + 1,
	}
}

// beyond are numbers out of bounds.
func beyond() []api.Q {
	return []api.Q{top + 1, low - 1, 1 << 47, -1 << 47, 1<<47 - 2, -1<<47 - 2, math.MaxInt64, math.MinInt64, math.MinInt64 + 1}
}

// mixed is a quaternion of numbers of so many bits, at most, some of them edges, and few of those out of bounds.
func mixed(source *rand.Rand, bits int) api.Quat {
	var q api.Quat
	for i := range q {
		q[i] = api.Q(int64(source.Uint64()) >> (63 - source.Intn(bits+1)))
		switch source.Intn(40) {
		case 0, 1, 2:
			q[i] = edges()[source.Intn(len(edges()))]
		case 3:
			q[i] = beyond()[source.Intn(len(beyond()))]
		}
	}
	return q
}

// many calls do with mixed quaternions, of numbers so small that few leave the bounds, and of such that often do.
func many(do func(p, q api.Quat)) {
	source := rand.New(rand.NewSource(4))
	for _, bits := range []int{3, 12, 13, 23, 25, 30, 34, 36, 40, 46} {
		for range 1500 {
			do(mixed(source, bits), mixed(source, bits))
		}
	}
}

// single calls do with each edge, and each number out of bounds, at each place, the other ones being others.
func single(do func(q api.Quat)) {
	for _, n := range append(edges(), beyond()...) {
		for _, other := range []api.Q{0, 5, one, -one} {
			for place := range 4 {
				q := api.Quat{other, other, other, other}
				q[place] = n
				do(q)
			}
		}
	}
}

func last(q api.Quat) api.Vec { return api.Vec{q[1], q[2], q[3]} }
