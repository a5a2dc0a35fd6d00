package kalman_test

import (
	"math"
	"math/big"
	"math/rand"
	"slices"

	"alidade/api"
)

// The model holds matrices as rows of whole numbers of any size, and brings in bounds what the chapters say: it shares neither mat nor qfix with the package.

const (
	one = 1 << 24
	top = 1<<46 - 1
	low = -1 << 46
)

type rows [][]*big.Int

// reckoner keeps whether a bound was met on the way, and at which steps that have a name.
type reckoner struct {
	met   bool
	step  string
	steps []string
}

// in names the step that comes.
func (r *reckoner) in(step string) *reckoner {
	r.step = step
	return r
}

// meet keeps that a bound was met.
func (r *reckoner) meet() {
	r.met = true
	if !slices.Contains(r.steps, r.step) {
		r.steps = append(r.steps, r.step)
	}
}

func whole(n api.Q) *big.Int { return big.NewInt(int64(n)) }

func number(n *big.Int) api.Q { return api.Q(n.Int64()) }

// bound is a number in bounds; what wasn't is kept.
func (r *reckoner) bound(n *big.Int) *big.Int {
	if n.Cmp(whole(top)) > 0 {
		r.meet()
		return whole(top)
	}
	if n.Cmp(whole(low)) < 0 {
		r.meet()
		return whole(low)
	}
	return n
}

// nearest is a number by another one that is above 0, rounded: of two that are as near the even one.
func nearest(n, by *big.Int) *big.Int {
	floor, rest := new(big.Int).DivMod(n, by, new(big.Int))
	side := rest.Lsh(rest, 1).Cmp(by)
	if side > 0 || side == 0 && floor.Bit(0) == 1 {
		floor.Add(floor, big.NewInt(1))
	}
	return floor
}

func (r *reckoner) add(a, b *big.Int) *big.Int {
	return r.bound(new(big.Int).Add(r.bound(a), r.bound(b)))
}

func (r *reckoner) sub(a, b *big.Int) *big.Int {
	return r.bound(new(big.Int).Sub(r.bound(a), r.bound(b)))
}

func (r *reckoner) mul(a, b *big.Int) *big.Int {
	return r.bound(nearest(new(big.Int).Mul(r.bound(a), r.bound(b)), whole(one)))
}

// div is of a number that b, above 0, goes into.
func (r *reckoner) div(a, b *big.Int) *big.Int {
	return r.bound(nearest(new(big.Int).Mul(r.bound(a), whole(one)), r.bound(b)))
}

// rowsOf cuts a matrix into its rows.
func rowsOf(a api.Mat) rows {
	var list rows
	for rest := a.L; len(rest) > 0; rest = rest[a.C:] {
		var row []*big.Int
		for _, n := range rest[:a.C] {
			row = append(row, whole(n))
		}
		list = append(list, row)
	}
	return list
}

// matOf lays rows behind one another.
func matOf(list rows) api.Mat {
	a := api.Mat{R: len(list), C: len(list[0])}
	for _, row := range list {
		for _, n := range row {
			a.L = append(a.L, number(n))
		}
	}
	return a
}

// made is of so many rows and columns, each number being told.
func made(r, c int, tell func(i, k int) *big.Int) rows {
	list := make(rows, r)
	for i := range list {
		for k := range c {
			list[i] = append(list[i], tell(i, k))
		}
	}
	return list
}

func turned(a rows) rows {
	return made(len(a[0]), len(a), func(i, k int) *big.Int { return a[k][i] })
}

func (r *reckoner) product(a, b rows) rows {
	return made(len(a), len(b[0]), func(i, k int) *big.Int {
		sum := whole(0)
		for j := range b {
			sum = r.add(sum, r.mul(a[i][j], b[j][k]))
		}
		return sum
	})
}

func (r *reckoner) sum(a, b rows) rows {
	return made(len(a), len(a[0]), func(i, k int) *big.Int { return r.add(a[i][k], b[i][k]) })
}

// lessFromEye is 1 on the diagonal and 0 elsewhere, less a.
func (r *reckoner) lessFromEye(a rows) rows {
	return made(len(a), len(a), func(i, k int) *big.Int {
		if i == k {
			return r.sub(whole(one), a[i][k])
		}
		return r.sub(whole(0), a[i][k])
	})
}

func (r *reckoner) scaled(a rows, by *big.Int) rows {
	return made(len(a), len(a[0]), func(i, k int) *big.Int { return r.mul(a[i][k], by) })
}

// good is what the chapter's words say of Good.
func good(a rows) rows {
	return made(len(a), len(a), func(i, k int) *big.Int {
		half := nearest(new(big.Int).Add(a[i][k], a[k][i]), whole(2))
		if i == k && half.Sign() < 0 {
			return whole(0)
		}
		return half
	})
}

// modelPredict is what P5.2 says.
func modelPredict(t api.Track, f, q api.Mat) (api.Track, bool) {
	var r reckoner
	by := rowsOf(f)
	x := r.product(by, rowsOf(t.X))
	p := r.sum(r.product(r.product(by, rowsOf(t.P)), turned(by)), rowsOf(q))
	return api.Track{X: matOf(x), P: matOf(good(p))}, r.met
}

// modelInnov is what P5.3 says.
func modelInnov(t api.Track, h api.Mat, z, r api.Q) (api.Q, api.Q, bool) {
	var k reckoner
	y, s := k.innov(t, h, z, r)
	return number(y), number(s), k.met
}

func (r *reckoner) innov(t api.Track, h api.Mat, z, vary api.Q) (y, s *big.Int) {
	row := rowsOf(h)
	hx := r.in("h X").product(row, rowsOf(t.X))
	y = r.in("y").sub(whole(z), hx[0][0])
	hp := r.in("h P").product(row, rowsOf(t.P))
	hph := r.in("h P h'").product(hp, turned(row))
	s = r.in("s").add(hph[0][0], whole(vary))
	return y, s
}

// modelUpdate is what P5.4 says: the track, whether it was taken, and whether a bound was met.
func modelUpdate(t api.Track, h api.Mat, z, vary, gate api.Q) (api.Track, bool, bool) {
	var r reckoner
	behind, taken := r.update(t, h, z, vary, gate)
	return behind, taken, r.met
}

func (r *reckoner) update(t api.Track, h api.Mat, z, vary, gate api.Q) (api.Track, bool) {
	y, s := r.innov(t, h, z, vary)
	square := r.in("y y").mul(y, y)
	most := r.in("gate s").mul(whole(gate), s)
	if square.Cmp(most) > 0 || s.Sign() <= 0 {
		return t, false
	}
	row, p := rowsOf(h), rowsOf(t.P)
	k := r.in("P h'").product(p, turned(row))
	for i := range k {
		k[i][0] = r.in("k").div(k[i][0], s)
	}
	ky := r.in("k y").scaled(k, y)
	x := r.in("X").sum(rowsOf(t.X), ky)
	kh := r.in("k h").product(k, row)
	i := r.in("i").lessFromEye(kh)
	ip := r.in("i P").product(i, p)
	left := r.in("i P i'").product(ip, turned(i))
	kr := r.in("k r").scaled(k, whole(vary))
	right := r.in("k r k'").product(kr, turned(k))
	sum := r.in("P").sum(left, right)
	return api.Track{X: matOf(x), P: matOf(good(sum))}, true
}

// of is a matrix of so many rows and columns.
func of(r, c int, l ...api.Q) api.Mat {
	return api.Mat{R: r, C: c, L: l}
}

// square is of as many rows as columns.
func square(n int, l ...api.Q) api.Mat {
	return of(n, n, l...)
}

// row is of one row, and column of one column.
func row(l ...api.Q) api.Mat {
	return of(1, len(l), l...)
}

func column(l ...api.Q) api.Mat {
	return of(len(l), 1, l...)
}

// track is of its numbers, and of the rows that tell how they vary.
func track(x []api.Q, p ...api.Q) api.Track {
	return api.Track{X: column(x...), P: square(len(x), p...)}
}

// noughts is a matrix of 0.
func noughts(r, c int) api.Mat {
	return of(r, c, make([]api.Q, r*c)...)
}

// eye is a matrix of 1 on the diagonal.
func eye(n int) api.Mat {
	a := noughts(n, n)
	for i := range n {
		a.L[i*n+i] = one
	}
	return a
}

// equalMat and equal: the same sizes, and the same numbers.
func equalMat(a, b api.Mat) bool {
	return a.R == b.R && a.C == b.C && slices.Equal(a.L, b.L)
}

func equal(a, b api.Track) bool {
	return equalMat(a.X, b.X) && equalMat(a.P, b.P)
}

// nothing: a track that is its zero value.
func nothing(t api.Track) bool {
	return equal(t, api.Track{})
}

// rightTrack is what the chapter's words say of a track that is right.
func rightTrack(t api.Track) bool {
	n := t.X.R
	if n < 1 || n > 8 || t.X.C != 1 || len(t.X.L) != n || t.P.R != n || t.P.C != n || len(t.P.L) != n*n {
		return false
	}
	for _, number := range append(slices.Clone(t.X.L), t.P.L...) {
		if number > top || number < low {
			return false
		}
	}
	for i := range n {
		for k := range n {
			if t.P.L[i*n+k] != t.P.L[k*n+i] {
				return false
			}
		}
		if t.P.L[i*n+i] < 0 {
			return false
		}
	}
	return true
}

// kept is a track whose numbers nobody else has.
func kept(t api.Track) api.Track {
	return api.Track{X: keptMat(t.X), P: keptMat(t.P)}
}

func keptMat(a api.Mat) api.Mat {
	return of(a.R, a.C, slices.Clone(a.L)...)
}

// mixedNumber is a number of so many bits, at most, now and then one at which something changes.
func mixedNumber(source *rand.Rand, bits int) api.Q {
	if source.Intn(24) == 0 {
		return []api.Q{0, 1, -1, one, -one, one / 2, top, low, top - 1, low + 1}[source.Intn(10)]
	}
	return api.Q(int64(source.Uint64()) >> (63 - source.Intn(bits+1)))
}

func mixed(source *rand.Rand, r, c, bits int) api.Mat {
	a := of(r, c)
	for range r * c {
		a.L = append(a.L, mixedNumber(source, bits))
	}
	return a
}

// mixedTrack is a track of n numbers that is right; whether it could be one of numbers that vary isn't asked.
func mixedTrack(source *rand.Rand, n, bits int) api.Track {
	t := api.Track{X: mixed(source, n, 1, bits), P: mixed(source, n, n, bits)}
	for i := range n {
		for k := range i {
			t.P.L[i*n+k] = t.P.L[k*n+i]
		}
		t.P.L[i*n+i] = max(t.P.L[i*n+i], -(t.P.L[i*n+i] + 1))
	}
	return t
}

// plainTrack is a track as it comes of numbers that vary: a matrix times itself turned, of numbers of at most 4.
func plainTrack(source *rand.Rand, n int) api.Track {
	var r reckoner
	half := rowsOf(mixedPlain(source, n, n))
	return api.Track{X: mixedPlain(source, n, 1), P: matOf(good(r.product(half, turned(half))))}
}

func mixedPlain(source *rand.Rand, r, c int) api.Mat {
	a := of(r, c)
	for range r * c {
		a.L = append(a.L, api.Q(source.Intn(8*one)-4*one))
	}
	return a
}

// allTracks goes through the sizes that may be, with plain tracks, and with mixed ones of numbers small enough that few leave the bounds, and of such that often do.
func allTracks(do func(source *rand.Rand, t api.Track, bits int)) {
	source := rand.New(rand.NewSource(5))
	for n := 1; n <= 8; n++ {
		for range 15 {
			do(source, plainTrack(source, n), 26)
			for _, bits := range []int{3, 12, 24, 27, 30, 34, 38, 46} {
				do(source, mixedTrack(source, n, bits), bits)
			}
		}
	}
}

// beyond are numbers out of bounds.
func beyond() []api.Q {
	return []api.Q{top + 1, low - 1, 1 << 47, -1 << 47, math.MaxInt64, math.MinInt64, math.MinInt64 + 1}
}

// wrongMats are matrices whose numbers don't lie as R and C say, or of which there are too many.
func wrongMats() []api.Mat {
	return []api.Mat{
		{}, of(0, 0, 1), of(0, 1), of(1, 0), of(1, 0, 1), of(1, 1), of(1, 1, 1, 2), of(2, 1), of(2, 1, 1), of(1, 2, 1), of(1, 2, 1, 2, 3),
		square(2), square(2, 1, 2, 3), square(2, 1, 2, 3, 4, 5), noughts(9, 1), noughts(1, 9), noughts(9, 9),
		of(-1, -1, 1), of(-1, 1), of(1, -1), of(-2, -2, 1, 2, 3, 4), of(math.MaxInt, math.MaxInt, 1), of(math.MinInt, math.MinInt),
		of(1<<32, 1<<32), of(1<<62, 4), of(1, math.MaxInt, 1), of(math.MinInt, 1, 1),
	}
}

// otherMats are matrices that are right, of some sizes.
func otherMats() []api.Mat {
	return []api.Mat{
		row(one), row(one, -one), column(one, 5), square(2, one, 2, 3, one), of(2, 3, 1, 2, 3, 4, 5, 6), of(3, 2, 1, 2, 3, 4, 5, 6),
		eye(3), noughts(8, 8), noughts(1, 8), noughts(8, 1), row(one, one, one),
	}
}
