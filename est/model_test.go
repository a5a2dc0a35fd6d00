package est_test

import (
	"math"
	"math/big"
	"math/rand"
	"slices"
	"strconv"
	"strings"

	"alidade/api"
)

// The model does a step in whole numbers of any size, and brings in bounds what the chapters say: it shares no package with the program but api.

const (
	one  = 1 << 24
	top  = 1<<46 - 1
	low  = -1 << 46
	most = 1 << 34 // the greatest number of a setting
)

// products is the table of P4.1, a line for each place.
const products = `ae -bf -cg -dh
af be ch -dg
ag -bh ce df
ah bg -cf de`

type rows [][]*big.Int

// reckoner keeps at which parts of a step a bound was met.
type reckoner struct {
	part  string
	parts []string
}

// in names the part that comes.
func (r *reckoner) in(part string) *reckoner {
	r.part = part
	return r
}

func (r *reckoner) meet() {
	if !slices.Contains(r.parts, r.part) {
		r.parts = append(r.parts, r.part)
	}
}

func whole(n api.Q) *big.Int { return big.NewInt(int64(n)) }

func number(n *big.Int) api.Q { return api.Q(n.Int64()) }

// bound is a number in bounds; what wasn't is kept.
func (r *reckoner) bound(n *big.Int) *big.Int {
	if n.Cmp(whole(top)) > 0 {
		r.meet()
		return whole(top)
	}
	if n.Cmp(whole(low)) < 0 {
		r.meet()
		return whole(low)
	}
	return n
}

// nearest is a number by another one that is above 0, rounded: of two that are as near the even one.
func nearest(n, by *big.Int) *big.Int {
	floor, rest := new(big.Int).DivMod(n, by, new(big.Int))
	side := rest.Lsh(rest, 1).Cmp(by)
	if side > 0 || side == 0 && floor.Bit(0) == 1 {
		floor.Add(floor, big.NewInt(1))
	}
	return floor
}

func (r *reckoner) add(a, b *big.Int) *big.Int {
	return r.bound(new(big.Int).Add(r.bound(a), r.bound(b)))
}

func (r *reckoner) sub(a, b *big.Int) *big.Int {
	return r.bound(new(big.Int).Sub(r.bound(a), r.bound(b)))
}

func (r *reckoner) mul(a, b *big.Int) *big.Int {
	return r.bound(nearest(new(big.Int).Mul(r.bound(a), r.bound(b)), whole(one)))
}

// div is of a number that b, above 0, goes into.
func (r *reckoner) div(a, b *big.Int) *big.Int {
	return r.bound(nearest(new(big.Int).Mul(r.bound(a), whole(one)), r.bound(b)))
}

func (r *reckoner) sumOf(four [4]*big.Int) *big.Int {
	return r.add(r.add(r.add(four[0], four[1]), four[2]), four[3])
}

func (r *reckoner) quatMul(p, q api.Quat) api.Quat {
	letters := map[byte]*big.Int{}
	for i := range 4 {
		letters["abcd"[i]], letters["efgh"[i]] = whole(p[i]), whole(q[i])
	}
	var out api.Quat
	for place, line := range strings.Split(products, "\n") {
		var four [4]*big.Int
		for i, word := range strings.Fields(line) {
			pair := strings.TrimPrefix(word, "-")
			four[i] = r.mul(letters[pair[0]], letters[pair[1]])
			if pair != word {
				four[i] = r.sub(whole(0), four[i])
			}
		}
		out[place] = number(r.sumOf(four))
	}
	return out
}

func (r *reckoner) quatUnit(q api.Quat) api.Quat {
	var four [4]*big.Int
	for i, n := range q {
		four[i] = r.mul(whole(n), whole(n))
	}
	n := new(big.Int).Sqrt(new(big.Int).Mul(r.sumOf(four), whole(one)))
	if n.Sign() == 0 {
		r.meet()
		return api.Quat{one, 0, 0, 0}
	}
	var out api.Quat
	for i := range q {
		out[i] = number(r.div(whole(q[i]), n))
	}
	return out
}

func (r *reckoner) quatSmall(v api.Vec, by api.Q) api.Quat {
	half := nearest(whole(by), whole(2))
	turn := api.Quat{one, 0, 0, 0}
	for i, n := range v {
		turn[i+1] = number(r.mul(whole(n), half))
	}
	return r.quatUnit(turn)
}

func (r *reckoner) quatTurn(q api.Quat, v api.Vec) api.Vec {
	back := q
	for _, place := range []int{1, 2, 3} {
		back[place] = number(r.sub(whole(0), whole(q[place])))
	}
	out := r.quatMul(r.quatMul(q, api.Quat{0, v[0], v[1], v[2]}), back)
	return api.Vec{out[1], out[2], out[3]}
}

// made is of so many rows and columns, each number being told.
func made(r, c int, tell func(i, k int) *big.Int) rows {
	list := make(rows, r)
	for i := range list {
		for k := range c {
			list[i] = append(list[i], tell(i, k))
		}
	}
	return list
}

// laid are rows of so many columns, of numbers that lie behind one another.
func laid(columns int, l ...api.Q) rows {
	return made(len(l)/columns, columns, func(i, k int) *big.Int { return whole(l[i*columns+k]) })
}

// matOf lays rows behind one another.
func matOf(list rows) api.Mat {
	a := api.Mat{R: len(list), C: len(list[0])}
	for _, row := range list {
		for _, n := range row {
			a.L = append(a.L, number(n))
		}
	}
	return a
}

func turned(a rows) rows {
	return made(len(a[0]), len(a), func(i, k int) *big.Int { return a[k][i] })
}

func (r *reckoner) product(a, b rows) rows {
	return made(len(a), len(b[0]), func(i, k int) *big.Int {
		sum := whole(0)
		for j := range b {
			sum = r.add(sum, r.mul(a[i][j], b[j][k]))
		}
		return sum
	})
}

func (r *reckoner) sum(a, b rows) rows {
	return made(len(a), len(a[0]), func(i, k int) *big.Int { return r.add(a[i][k], b[i][k]) })
}

// good is what chapter 5 says of Good.
func good(a rows) rows {
	return made(len(a), len(a), func(i, k int) *big.Int {
		half := nearest(new(big.Int).Add(a[i][k], a[k][i]), whole(2))
		if i == k && half.Sign() < 0 {
			return whole(0)
		}
		return half
	})
}

// predict is what P5.2 says, of a track of three.
func (r *reckoner) predict(t api.Track, f, q rows) api.Track {
	x := r.product(f, laid(1, t.X.L...))
	p := r.sum(r.product(r.product(f, laid(3, t.P.L...)), turned(f)), q)
	return api.Track{X: matOf(x), P: matOf(good(p))}
}

// update is what P5.3 and P5.4 say, of a track of three and the row (One, 0, 0).
func (r *reckoner) update(t api.Track, z, vary, gate api.Q) (api.Track, bool) {
	h, x, p := laid(3, one, 0, 0), laid(1, t.X.L...), laid(3, t.P.L...)
	y := r.sub(whole(z), r.product(h, x)[0][0])
	s := r.add(r.product(r.product(h, p), turned(h))[0][0], whole(vary))
	if r.mul(y, y).Cmp(r.mul(whole(gate), s)) > 0 || s.Sign() <= 0 {
		return t, false
	}
	ph := r.product(p, turned(h))
	k := made(3, 1, func(i, _ int) *big.Int { return r.div(ph[i][0], s) })
	x = made(3, 1, func(i, _ int) *big.Int { return r.add(x[i][0], r.mul(k[i][0], y)) })
	kh, eye := r.product(k, h), laid(3, one, 0, 0, 0, one, 0, 0, 0, one)
	i := made(3, 3, func(i, j int) *big.Int { return r.sub(eye[i][j], kh[i][j]) })
	left := r.product(r.product(i, p), turned(i))
	kr := made(3, 1, func(i, _ int) *big.Int { return r.mul(k[i][0], whole(vary)) })
	p = r.sum(left, r.product(kr, turned(k)))
	return api.Track{X: matOf(x), P: matOf(good(p))}, true
}

// step is what P6.2 says.
func (r *reckoner) step(c api.Conf, e api.Est, s api.Sample) (api.Est, api.Vec) {
	var a api.Vec
	if !s.Missing {
		small := r.in("small").quatSmall(s.Gyro, c.Dt)
		product := r.in("product").quatMul(e.Turn, small)
		e.Turn = r.in("unit").quatUnit(product)
		a = r.in("turn").quatTurn(e.Turn, s.Acc)
	}
	dt := whole(c.Dt)
	f := laid(3, one, c.Dt, 0, 0, one, -c.Dt, 0, 0, one)
	q := laid(3, make([]api.Q, 9)...)
	q[1][1], q[2][2] = r.in("noise").mul(whole(c.Acc), dt), r.mul(whole(c.Bias), dt)
	for i := range e.Axes {
		axis := r.in("predict "+strconv.Itoa(i)).predict(e.Axes[i], f, q)
		more := r.in("more "+strconv.Itoa(i)).mul(whole(a[i]), dt)
		axis.X.L[1] = number(r.in("speed "+strconv.Itoa(i)).add(whole(axis.X.L[1]), more))
		e.Axes[i] = axis
	}
	r.measured(c, &e, s)
	e.Coast++
	if !s.Missing {
		e.Coast = 0
	}
	e.Coast, e.Steps = min(e.Coast, 1000), min(e.Steps+1, 1<<40)
	e.Sat = e.Sat || len(r.parts) > 0
	return e, api.Vec{e.Axes[0].X.L[0], e.Axes[1].X.L[0], e.Axes[2].X.L[0]}
}

// measured is the third part of a step.
func (r *reckoner) measured(c api.Conf, e *api.Est, s api.Sample) {
	hold := func(name string, axis, off int, z, vary api.Q) {
		next, taken := r.in(name).update(e.Axes[axis], z, vary, c.Gate)
		e.Axes[axis] = next
		e.Off[off] = min(e.Off[off]+1, 1000)
		if taken {
			e.Off[off] = 0
		}
	}
	if s.HasBaro && !s.Missing {
		hold("baro", 2, 0, s.Baro, c.Baro)
	}
	if s.HasGnss && !s.Missing {
		hold("gnss 0", 0, 1, s.Gnss[0], c.Gnss)
		hold("gnss 1", 1, 2, s.Gnss[1], c.Gnss)
		hold("gnss 2", 2, 3, s.Gnss[2], c.Gnss)
	}
}

// axis is a track of three: X, and of P the first row, the second one from the second on, and the last one.
func axis(x0, x1, x2, p00, p01, p02, p11, p12, p22 api.Q) api.Track {
	return api.Track{
		X: api.Mat{R: 3, C: 1, L: []api.Q{x0, x1, x2}},
		P: api.Mat{R: 3, C: 3, L: []api.Q{p00, p01, p02, p01, p11, p12, p02, p12, p22}},
	}
}

// begun is an estimator as it is at its beginning.
func begun() api.Est {
	e := api.Est{Turn: api.Quat{one, 0, 0, 0}}
	for i := range e.Axes {
		e.Axes[i] = axis(0, 0, 0, 100*one, 0, 0, 10*one, 0, one)
	}
	return e
}

// plain is a setting of 1 each, but for the gate.
func plain(gate api.Q) api.Conf {
	return api.Conf{Dt: one, Acc: one, Bias: one, Baro: one, Gnss: one, Gate: gate}
}

func equalMat(a, b api.Mat) bool {
	return a.R == b.R && a.C == b.C && slices.Equal(a.L, b.L)
}

// equal: the same in all.
func equal(a, b api.Est) bool {
	for i := range a.Axes {
		if !equalMat(a.Axes[i].X, b.Axes[i].X) || !equalMat(a.Axes[i].P, b.Axes[i].P) {
			return false
		}
	}
	return a.Turn == b.Turn && a.Steps == b.Steps && a.Coast == b.Coast && a.Off == b.Off && a.Sat == b.Sat
}

// kept is an estimator whose memory nobody else has.
func kept(e api.Est) api.Est {
	for i := range e.Axes {
		e.Axes[i].X.L, e.Axes[i].P.L = slices.Clone(e.Axes[i].X.L), slices.Clone(e.Axes[i].P.L)
	}
	return e
}

// changed is an estimator, kept, with something done to it.
func changed(e api.Est, do func(e *api.Est)) api.Est {
	e = kept(e)
	do(&e)
	return e
}

// rightEst is what the chapter's words say of an estimator that is right.
func rightEst(e api.Est) bool {
	inside := func(n, most int) bool { return n >= 0 && n <= most }
	all := slices.Clone(e.Turn[:])
	for _, t := range e.Axes {
		if t.X.R != 3 || t.X.C != 1 || len(t.X.L) != 3 || t.P.R != 3 || t.P.C != 3 || len(t.P.L) != 9 {
			return false
		}
		p := t.P.L
		if p[1] != p[3] || p[2] != p[6] || p[5] != p[7] || p[0] < 0 || p[4] < 0 || p[8] < 0 {
			return false
		}
		all = append(append(all, t.X.L...), p...)
	}
	for _, n := range all {
		if n < low || n > top {
			return false
		}
	}
	for _, n := range e.Off {
		if !inside(n, 1000) {
			return false
		}
	}
	return inside(e.Steps, 1<<40) && inside(e.Coast, 1000)
}

// beyond are numbers out of bounds.
func beyond() []api.Q {
	return []api.Q{top + 1, low - 1, 1 << 47, -1 << 47, math.MaxInt64, math.MinInt64, math.MinInt64 + 1}
}

// mixedNumber is a number of so many bits, at most, now and then one at which something changes.
func mixedNumber(source *rand.Rand, bits int) api.Q {
	if source.Intn(40) == 0 {
		return []api.Q{0, 1, -1, one, -one, one / 2, top, low, top - 1, low + 1}[source.Intn(10)]
	}
	return api.Q(int64(source.Uint64()) >> (63 - source.Intn(bits+1)))
}

// notBelow is a mixed number that is 0 or above.
func notBelow(source *rand.Rand, bits int) api.Q {
	n := mixedNumber(source, bits)
	return max(n, -(n + 1))
}

// mixedConf is a setting that may be.
func mixedConf(source *rand.Rand) api.Conf {
	n := func() api.Q {
		if source.Intn(10) == 0 {
			return []api.Q{1, 2, 3, one, most - 1, most}[source.Intn(6)]
		}
		return min(1+notBelow(source, 34), most)
	}
	return api.Conf{Dt: n(), Acc: n(), Bias: n(), Baro: n(), Gnss: n(), Gate: n()}
}

// mixedEst is an estimator that is right.
func mixedEst(source *rand.Rand, bits int) api.Est {
	n := func() api.Q { return mixedNumber(source, bits) }
	v := func() api.Q { return notBelow(source, bits) }
	count := func() int { return []int{0, 1, source.Intn(1001), 998, 999, 1000}[source.Intn(6)] }
	e := api.Est{Turn: api.Quat{n(), n(), n(), n()}, Steps: count(), Coast: count(), Off: [4]int{count(), count(), count(), count()}}
	for i := range e.Axes {
		e.Axes[i] = axis(n(), n(), n(), v(), n(), n(), v(), n(), v())
	}
	if source.Intn(4) == 0 {
		e.Steps = 1<<40 - source.Intn(3)
	}
	e.Sat = source.Intn(8) == 0
	return e
}

// mixedSample is of any numbers, few of them out of bounds.
func mixedSample(source *rand.Rand, bits int) api.Sample {
	n := func() api.Q {
		if source.Intn(100) == 0 {
			return beyond()[source.Intn(len(beyond()))]
		}
		return mixedNumber(source, bits)
	}
	return api.Sample{
		Missing: source.Intn(5) == 0,
		Gyro:    api.Vec{n(), n(), n()}, Acc: api.Vec{n(), n(), n()},
		HasBaro: source.Intn(2) == 0, Baro: n(),
		HasGnss: source.Intn(2) == 0, Gnss: api.Vec{n(), n(), n()},
	}
}

// all calls do with settings, estimators and samples of numbers so small that few leave the bounds, and of such that often do.
func all(do func(source *rand.Rand, c api.Conf, e api.Est, s api.Sample)) {
	source := rand.New(rand.NewSource(6))
	for _, bits := range []int{3, 12, 20, 24, 27, 30, 34, 38, 46} {
		for range 150 {
			do(source, mixedConf(source), mixedEst(source, bits), mixedSample(source, bits))
		}
	}
}

// flight calls do with samples as they come, one behind the other: it is turned and sped up a little, and measured now and then, seldom with what is far off.
func flight(steps int, do func(s api.Sample)) {
	source := rand.New(rand.NewSource(7))
	about := func(n, by api.Q) api.Q { return n + api.Q(source.Int63n(int64(2*by+1))) - by }
	for i := range steps {
		s := api.Sample{
			Gyro:    api.Vec{about(0, one/4), about(one/8, one/4), about(0, one/4)},
			Acc:     api.Vec{about(one, one), about(0, one), about(-one/2, one)},
			Missing: i%17 == 5 || i%50 >= 45,
			HasBaro: i%3 == 0, HasGnss: i%10 == 0,
		}
		s.Baro = about(0, 4*one)
		s.Gnss = api.Vec{about(0, 4*one), about(0, 4*one), about(0, 4*one)}
		if i%40 == 30 {
			s.Gnss[1], s.Baro = 1000*one, -1000*one
		}
		do(s)
	}
}
