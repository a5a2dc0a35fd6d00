package kalman_test

import (
	"math"
	"math/rand"
	"slices"
	"strings"
	"testing"

	"alidade/api"
	"alidade/kalman"
)

// tally counts how often something was told, so that a test sees both.
type tally [2]int

func (c *tally) add(told bool) {
	if told {
		c[1]++
	} else {
		c[0]++
	}
}

func (c *tally) check(t *testing.T, what string) {
	t.Helper()
	if c[0] < 100 || c[1] < 100 {
		t.Errorf("%s: always, never or nearly so: %v", what, *c)
	}
}

// TestRight: a track that is right, and one that isn't, in each way.
func TestRight(t *testing.T) {
	allTracks(func(source *rand.Rand, a api.Track, _ int) {
		if !kalman.Right(a) {
			t.Errorf("not right: %v", a)
		}
		n := a.X.R
		for _, out := range beyond() {
			b, c := kept(a), kept(a)
			b.X.L[source.Intn(n)] = out
			i, k := source.Intn(n), source.Intn(n)
			c.P.L[i*n+k], c.P.L[k*n+i] = out, out
			if kalman.Right(b) || kalman.Right(c) {
				t.Errorf("right, out of bounds: %v, %v", b, c)
			}
		}
		for i := range n {
			b := kept(a)
			b.P.L[i*n+i] = []api.Q{-1, low, -one}[source.Intn(3)]
			if kalman.Right(b) {
				t.Errorf("right, below 0 at %d: %v", i, b)
			}
			for k := range n {
				c := kept(a)
				c.P.L[i*n+k] ^= 1
				if i != k && kalman.Right(c) {
					t.Errorf("right, uneven at %d, %d: %v", i, k, c)
				}
			}
		}
	})
	for _, a := range []api.Track{
		track([]api.Q{low}, 0), track([]api.Q{top}, top), track([]api.Q{0, 0}, 0, low, low, 0), track([]api.Q{0, 0}, 0, top, top, 0),
		{X: noughts(8, 1), P: noughts(8, 8)},
	} {
		if !kalman.Right(a) {
			t.Errorf("not right: %v", a)
		}
	}
}

// TestRightSizes: no track is right whose matrices aren't, or don't fit one another.
func TestRightSizes(t *testing.T) {
	all := append(wrongMats(), otherMats()...)
	for _, x := range all {
		for _, p := range all {
			a := api.Track{X: x, P: p}
			if got, want := kalman.Right(a), rightTrack(a); got != want {
				t.Errorf("Right(%v): %t, not %t", a, got, want)
			}
		}
	}
	for _, a := range []api.Track{
		{X: row(1, 2), P: noughts(2, 2)}, {X: column(1, 2), P: noughts(1, 1)}, {X: column(1, 2), P: noughts(3, 3)},
		{X: column(1, 2), P: noughts(2, 1)}, {X: column(1, 2), P: noughts(1, 2)}, {X: column(1, 2), P: noughts(2, 3)}, {X: column(1, 2), P: noughts(3, 2)},
		{X: noughts(2, 2), P: noughts(2, 2)}, {X: noughts(9, 1), P: noughts(9, 9)}, {X: column(1, 2), P: noughts(4, 1)}, {},
	} {
		if kalman.Right(a) {
			t.Errorf("right: %v", a)
		}
	}
}

// TestNew: P5.1.
func TestNew(t *testing.T) {
	x, vary := []api.Q{low, 5, top, 0, -7, one, -1, 1}, []api.Q{0, top, 1, one, 7, 0, 3, 2}
	for n := 1; n <= 8; n++ {
		want := api.Track{X: column(x[:n]...), P: noughts(n, n)}
		for i := range n {
			want.P.L[i*n+i] = vary[i]
		}
		if a, e := kalman.New(x[:n], vary[:n]); e != api.OK || !equal(a, want) || !kalman.Right(a) {
			t.Errorf("New(%v, %v): %v, %d", x[:n], vary[:n], a, e)
		}
	}
	refused := func(x, vary []api.Q) {
		t.Helper()
		if a, e := kalman.New(x, vary); e != api.ErrArg || !nothing(a) {
			t.Errorf("New(%v, %v): %v, %d", x, vary, a, e)
		}
	}
	for many := range 12 {
		for others := range 12 {
			if many != others || many == 0 || many > 8 {
				refused(make([]api.Q, many), make([]api.Q, others))
			}
		}
	}
	refused(nil, nil)
	refused(make([]api.Q, 300), make([]api.Q, 300))
	for i := range 8 {
		for _, out := range beyond() {
			refused(changed(x, i, out), vary)
			refused(x, changed(vary, i, out))
		}
		for _, negative := range []api.Q{-1, low, -one} {
			refused(x, changed(vary, i, negative))
		}
	}
}

// changed is a list with another number at one place.
func changed(l []api.Q, place int, n api.Q) []api.Q {
	l = slices.Clone(l)
	l[place] = n
	return l
}

// TestSame: P5.1.
func TestSame(t *testing.T) {
	allTracks(func(source *rand.Rand, a api.Track, _ int) {
		if !kalman.Same(a, a) || !kalman.Same(a, kept(a)) {
			t.Errorf("not the same: %v", a)
		}
		for place := range a.X.L {
			b := kept(a)
			b.X.L[place] ^= 1
			if kalman.Same(a, b) || kalman.Same(b, a) {
				t.Errorf("the same: %v, %v", a, b)
			}
		}
		for place := range a.P.L {
			b := kept(a)
			b.P.L[place] ^= 1
			if kalman.Same(a, b) || kalman.Same(b, a) {
				t.Errorf("the same: %v, %v", a, b)
			}
		}
	})
	a, b := track([]api.Q{0}, 0), track([]api.Q{0, 0}, 0, 0, 0, 0)
	if kalman.Same(a, b) || kalman.Same(b, a) || kalman.Same(a, api.Track{}) || !kalman.Same(api.Track{}, api.Track{}) {
		t.Error("the same, of other sizes, or nothing that isn't")
	}
}

// TestGood: what the chapter's words say of Good, of whatever is right and as many rows as columns.
func TestGood(t *testing.T) {
	for _, x := range []struct{ p, want api.Mat }{
		{square(2, -4, 2, 4, 6), square(2, 0, 3, 3, 6)},
		{square(1, -1), square(1, 0)},
		{square(1, 0), square(1, 0)},
		{square(1, 1), square(1, 1)},
		{square(1, low), square(1, 0)},
		{square(1, top), square(1, top)},
		{square(2, 1, 1, 2, 1), square(2, 1, 2, 2, 1)},    // 1.5 is 2
		{square(2, 1, 2, 3, 1), square(2, 1, 2, 2, 1)},    // 2.5 is 2
		{square(2, 1, -1, 0, 1), square(2, 1, 0, 0, 1)},   // -0.5 is 0
		{square(2, 1, -3, 0, 1), square(2, 1, -2, -2, 1)}, // -1.5 is -2, and stays below 0
		{square(2, 0, low, low, 0), square(2, 0, low, low, 0)},
		{square(2, 0, top, top, -5), square(2, 0, top, top, 0)},
		{square(2, 0, top, low, -5), square(2, 0, 0, 0, 0)}, // -0.5 again
		{square(3, -1, -2, -3, -4, -5, -6, -7, -8, -9), square(3, 0, -3, -5, -3, 0, -7, -5, -7, 0)},
	} {
		if got := kalman.Good(x.p); !equalMat(got, x.want) {
			t.Errorf("Good(%v): %v, not %v", x.p, got, x.want)
		}
	}
	source := rand.New(rand.NewSource(6))
	for n := 1; n <= 8; n++ {
		for _, bits := range []int{2, 3, 20, 40, 46} {
			for range 20 {
				p := mixed(source, n, n, bits)
				got := kalman.Good(p)
				if want := matOf(good(rowsOf(p))); !equalMat(got, want) {
					t.Errorf("Good(%v): %v, not %v", p, got, want)
				}
				if again := kalman.Good(got); !equalMat(got, again) || !kalman.Right(api.Track{X: noughts(n, 1), P: got}) {
					t.Errorf("Good(%v): %v, again %v", p, got, again)
				}
			}
		}
	}
}

// TestPredict: P5.2, number by number.
func TestPredict(t *testing.T) {
	var met tally
	allTracks(func(source *rand.Rand, a api.Track, bits int) {
		n := a.X.R
		for _, f := range []api.Mat{mixed(source, n, n, bits), mixedPlain(source, n, n)} {
			q := mixed(source, n, n, bits)
			got, out, e := kalman.Predict(a, f, q)
			if want, told := modelPredict(a, f, q); e != api.OK || out != told || !equal(got, want) {
				t.Errorf("Predict(%v, %v, %v): %v, %t, %d, not %v, %t", a, f, q, got, out, e, want, told)
			}
			met.add(out)
		}
	})
	met.check(t, "bounds")
}

// TestPredictEdges: P5.2: what is rounded, what a bound changes, and where alone it may be met.
func TestPredictEdges(t *testing.T) {
	const half = one / 2
	zero := noughts(2, 2)
	for _, x := range []struct {
		name string
		a    api.Track
		f, q api.Mat
		want api.Track
		out  bool
	}{
		{"told on", track([]api.Q{0, one}, one, 0, 0, 4*one), square(2, one, one, 0, one), square(2, 0, 0, 0, one),
			track([]api.Q{one, one}, 5*one, 4*one, 4*one, 5*one), false},
		{"each product rounded", track([]api.Q{0, 0}, 1, 0, 0, 0), square(2, half, 0, 3*one, 0), zero, track([]api.Q{0, 0}, 0, 1, 1, 9), false}, // f P is 0 and 3, that times f turned 0, 1.5 and 9
		{"by Eye", track([]api.Q{top, low}, top, low, low, 5), eye(2), zero, track([]api.Q{top, low}, top, low, low, 5), false},
		{"X alone", track([]api.Q{top, 1}, 0, 0, 0, 0), square(2, one, one, 0, one), zero, track([]api.Q{top, 1}, 0, 0, 0, 0), true},
		{"X, at the bound", track([]api.Q{top - 1, 1}, 0, 0, 0, 0), square(2, one, one, 0, one), zero, track([]api.Q{top, 1}, 0, 0, 0, 0), false},
		{"f P", track([]api.Q{0, 0}, top, 0, 0, 0), square(2, 2*one, 0, 0, 0), zero, track([]api.Q{0, 0}, top, 0, 0, 0), true},
		{"f P alone", track([]api.Q{0, 0}, 0, top, top, 0), square(2, 0, 2*one, 0, 0), zero, track([]api.Q{0, 0}, 0, 0, 0, 0), true},
		{"f P f' alone", track([]api.Q{0, 0}, 1<<44, 0, 0, 0), square(2, 2*one, 0, 0, 0), zero, track([]api.Q{0, 0}, top, 0, 0, 0), true},
		{"f P f', in bounds", track([]api.Q{0, 0}, 1<<44-1, 0, 0, 0), square(2, 2*one, 0, 0, 0), zero, track([]api.Q{0, 0}, 1<<46-4, 0, 0, 0), false},
		{"q alone", track([]api.Q{0, 0}, top, 0, 0, 0), eye(2), square(2, 1, 0, 0, 0), track([]api.Q{0, 0}, top, 0, 0, 0), true},
		{"q, at the bound", track([]api.Q{0, 0}, top-1, 0, 0, 0), eye(2), square(2, 1, 0, 0, 0), track([]api.Q{0, 0}, top, 0, 0, 0), false},
		{"q takes it below 0", track([]api.Q{0, 0}, 5, 3, 3, 7), eye(2), square(2, -6, 0, 0, -7), track([]api.Q{0, 0}, 0, 3, 3, 0), false},
		{"q is uneven", track([]api.Q{0, 0}, 5, 3, 3, 7), eye(2), square(2, 1, 2, 5, 1), track([]api.Q{0, 0}, 6, 6, 6, 8), false},
		{"below Low, across", track([]api.Q{0, 0}, 5, low, low, 7), eye(2), square(2, 0, -1, 0, 0), track([]api.Q{0, 0}, 5, low, low, 7), true},
	} {
		got, out, e := kalman.Predict(x.a, x.f, x.q)
		if e != api.OK || out != x.out || !equal(got, x.want) {
			t.Errorf("%s: %v, %t, %d, not %v, %t", x.name, got, out, e, x.want, x.out)
		}
	}
}

// TestPredictSizes: P5.2: ErrSize and nothing, whichever of the two doesn't fit, and however.
func TestPredictSizes(t *testing.T) {
	for n := 1; n <= 8; n++ {
		a := api.Track{X: column(slices.Repeat([]api.Q{top}, n)...), P: eye(n)}
		for r := 1; r <= 8; r++ {
			for c := 1; c <= 8; c++ {
				other := of(r, c, slices.Repeat([]api.Q{top}, r*c)...)
				fits := r == n && c == n
				for _, x := range [][2]api.Mat{{other, eye(n)}, {other, eye(r)}, {eye(n), other}, {other, other}} {
					got, out, e := kalman.Predict(a, x[0], x[1])
					if fits != (e == api.OK) || !fits && (e != api.ErrSize || out || !nothing(got)) {
						t.Errorf("Predict(%v, %v, %v): %v, %t, %d", a, x[0], x[1], got, out, e)
					}
				}
			}
		}
	}
}

// TestInnov: P5.3, number by number.
func TestInnov(t *testing.T) {
	var met tally
	allTracks(func(source *rand.Rand, a api.Track, bits int) {
		for _, h := range []api.Mat{mixed(source, 1, a.X.R, bits), mixedPlain(source, 1, a.X.R)} {
			z, r := mixedNumber(source, bits), vary(source, bits)
			y, s, out, e := kalman.Innov(a, h, z, r)
			if first, second, told := modelInnov(a, h, z, r); e != api.OK || out != told || y != first || s != second {
				t.Errorf("Innov(%v, %v, %d, %d): %d, %d, %t, %d, not %d, %d, %t", a, h, z, r, y, s, out, e, first, second, told)
			}
			met.add(out)
		}
	})
	met.check(t, "bounds")
}

// vary is a number above 0, now and then out of bounds.
func vary(source *rand.Rand, bits int) api.Q {
	if source.Intn(40) == 0 {
		return []api.Q{1, top, top + 1, math.MaxInt64}[source.Intn(4)]
	}
	n := mixedNumber(source, bits)
	return max(n, -(n + 1), 1)
}

// TestInnovEdges: P5.3: where a bound may be met, and what that changes.
func TestInnovEdges(t *testing.T) {
	a := track([]api.Q{3 * one, -one}, 2*one, one/2, one/2, 5*one)
	wide := track([]api.Q{top, 1}, 0, low, low, 0)
	for _, x := range []struct {
		name string
		a    api.Track
		h    api.Mat
		z, r api.Q
		y, s api.Q
		out  bool
	}{
		{"the first number", a, row(one, 0), 10 * one, one, 7 * one, 3 * one, false},
		{"both", a, row(one, 2*one), 10 * one, 1, 9 * one, 24*one + 1, false},
		{"none", a, row(0, 0), -5, 1, -5, 1, false},
		{"less than nothing varies", track([]api.Q{0, 0}, 0, 5, 5, 0), row(one, -one), 0, 10, 0, 0, false},
		{"below 0", track([]api.Q{0, 0}, 0, 5, 5, 0), row(one, -one), 0, 1, 0, -9, false},
		{"h X alone", track([]api.Q{top, 1}, 0, 0, 0, 0), row(one, one), 0, 1, -top, 1, true},
		{"h X, at the bound", track([]api.Q{top - 1, 1}, 0, 0, 0, 0), row(one, one), 0, 1, -top, 1, false},
		{"z less h X", wide, row(one, 0), -2, 1, low, 1, true},
		{"z less h X, at the bound", wide, row(one, 0), -1, 1, low, 1, false},
		{"above, too", track([]api.Q{low}, 0), row(one), 0, 1, top, 1, true},
		{"h P alone", wide, row(0, 2*one), 0, 1, -2, 1, true},
		{"h P h' alone", track([]api.Q{0}, 1<<44), row(2 * one), 0, 1, 0, top, true},
		{"h P h', in bounds", track([]api.Q{0}, 1<<44-1), row(2 * one), 0, 3, 0, top, false},
		{"the sum with r", track([]api.Q{0}, 1<<44-1), row(2 * one), 0, 4, 0, top, true},
		{"z above", a, row(0, 0), top + 1, 1, top, 1, true},
		{"z below", a, row(0, 0), math.MinInt64, 1, low, 1, true},
		{"r at the bound", a, row(0, 0), 0, top, 0, top, false},
		{"r above", a, row(0, 0), 0, top + 1, 0, top, true},
		{"r far above", a, row(0, 0), 0, math.MaxInt64, 0, top, true},
	} {
		y, s, out, e := kalman.Innov(x.a, x.h, x.z, x.r)
		if e != api.OK || y != x.y || s != x.s || out != x.out {
			t.Errorf("%s: %d, %d, %t, %d, not %d, %d, %t", x.name, y, s, out, e, x.y, x.s, x.out)
		}
	}
}

// TestMeasuredWrong: P5.3 and P5.4: ErrSize of a row that doesn't fit, ahead of ErrArg of an r that isn't above 0; noughts, and nothing, beside them.
func TestMeasuredWrong(t *testing.T) {
	for n := 1; n <= 8; n++ {
		a := api.Track{X: column(slices.Repeat([]api.Q{top}, n)...), P: eye(n)}
		for rows := 1; rows <= 8; rows++ {
			for columns := 1; columns <= 8; columns++ {
				h := of(rows, columns, slices.Repeat([]api.Q{top}, rows*columns)...)
				for _, r := range []api.Q{1, one, 0, -1, low, low - 1, math.MinInt64} {
					want := api.OK
					if r <= 0 {
						want = api.ErrArg
					}
					if rows != 1 || columns != n {
						want = api.ErrSize
					}
					y, s, out, e := kalman.Innov(a, h, top+1, r)
					if e != want || e != api.OK && (y != 0 || s != 0 || out) {
						t.Errorf("Innov(%v, %v, %d): %d, %d, %t, %d, not %d", a, h, r, y, s, out, e, want)
					}
					got, taken, out, e := kalman.Update(a, h, top+1, r, top+1)
					if e != want || e != api.OK && (!nothing(got) || taken || out) {
						t.Errorf("Update(%v, %v, %d): %v, %t, %t, %d, not %d", a, h, r, got, taken, out, e, want)
					}
				}
			}
		}
	}
}

// TestUpdate: P5.4, number by number, with gates of all sizes, and with such at which a number is just taken, or just isn't.
func TestUpdate(t *testing.T) {
	var taken, met, metTaken tally
	allTracks(func(source *rand.Rand, a api.Track, bits int) {
		for _, h := range []api.Mat{mixed(source, 1, a.X.R, bits), mixedPlain(source, 1, a.X.R)} {
			z, r := mixedNumber(source, bits), vary(source, bits)
			for _, gate := range gates(source, a, h, z, r) {
				got, was, out, e := kalman.Update(a, h, z, r, gate)
				want, should, told := modelUpdate(a, h, z, r, gate)
				if e != api.OK || was != should || out != told || !equal(got, want) {
					t.Errorf("Update(%v, %v, %d, %d, %d): %v, %t, %t, %d, not %v, %t, %t", a, h, z, r, gate, got, was, out, e, want, should, told)
				}
				taken.add(was)
				if was {
					metTaken.add(out)
				} else {
					met.add(out)
				}
			}
		}
	})
	taken.check(t, "taken")
	met.check(t, "bounds, of what wasn't taken")
	metTaken.check(t, "bounds, of what was taken")
}

// gates are some that may be, and those about which a number is just taken.
func gates(source *rand.Rand, a api.Track, h api.Mat, z, r api.Q) []api.Q {
	list := []api.Q{0, 1, -1, 9 * one, top, low, mixedNumber(source, 46), beyond()[source.Intn(len(beyond()))]}
	var k reckoner
	y, s := k.innov(a, h, z, r)
	if s.Sign() > 0 {
		edge := number(k.div(k.mul(y, y), s))
		list = append(list, edge-1, edge, edge+1)
	}
	return list
}

// TestUpdateEdges: P5.4: what is just taken, and what isn't; where a bound alone may be met.
func TestUpdateEdges(t *testing.T) {
	const half = one / 2
	a := track([]api.Q{one, one}, 5*one, 4*one, 4*one, 5*one)
	behind := track([]api.Q{6 * one, 5 * one}, 15*one/8, 3*half, 3*half, 3*one)
	crossed := track([]api.Q{0, 0}, 0, 5, 5, 0)
	first := row(one, 0)
	for _, x := range []struct {
		name       string
		a          api.Track
		h          api.Mat
		z, r, gate api.Q
		want       api.Track
		taken, out bool
	}{
		{"the chapter's example", track([]api.Q{0}, one), row(one), 2 * one, one, 100 * one, track([]api.Q{one}, half), true, false},
		{"at the gate", a, first, 9 * one, 3 * one, 8 * one, behind, true, false},
		{"above the gate", a, first, 9 * one, 3 * one, 8*one - 1, a, false, false},
		{"below 0 at the gate", a, first, -7 * one, 3 * one, 8 * one, track([]api.Q{-4 * one, -3 * one}, behind.P.L...), true, false},
		{"below 0 above the gate", a, first, -7 * one, 3 * one, 8*one - 1, a, false, false},
		{"not off at all", a, first, one, 3 * one, 0, track([]api.Q{one, one}, behind.P.L...), true, false},
		{"a gate below 0", a, first, one, 3 * one, -1, a, false, false},
		{"a square that is nothing", a, first, one + 2896, 3 * one, 0, track([]api.Q{one + 1810, one + 1448}, behind.P.L...), true, false},
		{"a square that isn't", a, first, one + 2897, 3 * one, 0, a, false, false},
		{"s is 0", crossed, row(one, -one), 0, 10, top, crossed, false, false},
		{"s is 1", crossed, row(one, -one), 0, 11, 0, track([]api.Q{0, 0}, 0, 30, 30, 0), true, false}, // -25 on the diagonal is 0
		{"s is below 0", crossed, row(one, -one), 0, 1, low, crossed, false, false},
		{"s is below 0, and the gate too", crossed, row(one, -one), 100, 1, low, crossed, false, false},
		{"s is 0, and y's square meets a bound", crossed, row(one, -one), 1 << 35, 10, top, crossed, false, true},
		{"s is 0, and the gate is beyond", crossed, row(one, -one), 0, 10, top + 1, crossed, false, true},
		{"s is below 0, and the product meets a bound", track([]api.Q{0, 0}, 0, one, one, 0), row(one, -one), 0, 1, top, track([]api.Q{0, 0}, 0, one, one, 0), false, true},
		{"y's square alone", a, first, one + 1<<35, 3 * one, one, a, false, true},
		{"y's square, in bounds", a, first, one + 1<<35 - 1, 3 * one, one, a, false, false},
		{"the product of gate and s alone", a, first, 9 * one, 3 * one, top, behind, true, true},
		{"that product at the bound", a, first, 9 * one, 3 * one, 1<<43 - 1, behind, true, false},
		{"both at the bound", a, first, one + 1<<35, 3 * one, 1 << 43, track([]api.Q{one + 5<<32, one + 1<<34}, behind.P.L...), true, true},
		{"y alone", track([]api.Q{low}, one), row(one), one, one, one, track([]api.Q{low}, one), false, true},
	} {
		got, taken, out, e := kalman.Update(x.a, x.h, x.z, x.r, x.gate)
		if e != api.OK || taken != x.taken || out != x.out || !equal(got, x.want) {
			t.Errorf("%s: %v, %t, %t, %d, not %v, %t, %t", x.name, got, taken, out, e, x.want, x.taken, x.out)
		}
	}
}

// TestUpdateAlone: P5.4: a bound that is met at one step alone is told, whichever step it is. (Some go with others: h P has the numbers of P h', and k times r is at a bound only where that times k turned is, or where r is beyond it.)
func TestUpdateAlone(t *testing.T) {
	for _, x := range []struct {
		steps      string
		a          api.Track
		h          api.Mat
		z, r, gate api.Q
	}{
		{"h X", track([]api.Q{-3489660928, 35184372088832}, 0, -40960, -40960, 1374389534720), row(-3023656976384, -75497472), -1179648, 1, 1},
		{"y", track([]api.Q{top}, one), row(one), top + 1, one, 0},
		{"h P h'", track([]api.Q{0, -16}, 0, 939524096, 939524096, 4026531840), row(100663296, -8589934592), -262144, 2, 1},
		{"s", track([]api.Q{704}, 52776558133248), row(-18874368), -16777216, 6047313952768, 5},
		{"y y", track([]api.Q{-7340032, 67108864}, 0, -1610612736, -1610612736, 3), row(-2621440, 524288), 3298534883328, 1048576, top},
		{"gate s", track([]api.Q{196608}, 28), row(-4096), -34359738368, 61572651155456, 19173962},
		{"h P, P h'", track([]api.Q{0, 0, 0}, 1<<44, 9<<42, 0, 9<<42, 7<<43, 9<<42, 0, 9<<42, 1<<44), row(one, 0, one), 0, 1<<45 - 1, 0},
		{"k", track([]api.Q{0}, 35184372088832), row(2), 6144, 1, 33554433},
		{"k", track([]api.Q{14680064, 14680064}, 32768, 10995116277760, 10995116277760, 33554432), row(1, 12), 1792, 1, 1}, // the first one alone
		{"k", track([]api.Q{-64, -12582912}, 12288, -6597069766656, -6597069766656, 1236950581248), row(-15, 0), -4608, 1, 16777217},
		{"k", track([]api.Q{-147456, -98304, 5242880}, 16384, 0, 0, 0, 65536, 4294967296, 0, 4294967296, 32), row(0, 0, 16384), 448, 1, 16777217},
		{"k y", track([]api.Q{0, 0}, 3145728, -35184372088832, -35184372088832, 61572651155456), row(-96, 64), -402653184, 1, 66637725682425},
		{"X", track([]api.Q{0, -61572651155456}, 29360128, -25769803776, -25769803776, 0), row(-12582912, -1920), 0, 40960, 4092544124319},
		{"k h", track([]api.Q{0, 0}, 0, 16384, 16384, 0), row(48378511622144, 0), 640, 33554432, 1},
		{"i", track([]api.Q{-5120, 0}, 0, -1024, -1024, 0), row(0, 1073741824), -4096, 1, 16777217},
		{"i P", track([]api.Q{134217728, 0, 3407872}, 0, 786432, 6442450944, 786432, 327680, -30786325577728, 6442450944, -30786325577728, 3023656976384), row(0, 0, 9437184), 245760, 1, 4},
		{"i P i'", track([]api.Q{-176, 0}, 0, 17179869184, 17179869184, 0), row(0, 57344), 0, 60, 1},
		{"k r k'", track([]api.Q{0, 32, 0}, 448, -34359738368, 67108864, -34359738368, 61572651155456, 0, 67108864, 0, 0), row(2097152, 0, -27262976), 14, 29360128, 1},
		{"s, k r", track([]api.Q{0}, 0), row(one), 0, top + 1, 0},
		{"P", track([]api.Q{0, 0}, 3, 275585521, 275585521, top), row(-433, 0), 0, 9077304, 0},
	} {
		var r reckoner
		want, taken := r.update(x.a, x.h, x.z, x.r, x.gate)
		if !taken || strings.Join(r.steps, ", ") != x.steps {
			t.Errorf("%s: taken %t, bounds at %q", x.steps, taken, r.steps)
		}
		got, taken, out, e := kalman.Update(x.a, x.h, x.z, x.r, x.gate)
		if e != api.OK || !taken || !out || !equal(got, want) {
			t.Errorf("%s: %v, %t, %t, %d, not %v", x.steps, got, taken, out, e, want)
		}
	}
}
