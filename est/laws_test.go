package est_test

import (
	"math/rand"
	"slices"
	"testing"

	"alidade/api"
	"alidade/est"
)

// TestToldRight: P6.4: what comes out is right, however often it is told on, in bounds and at them; Sat, once yes, stays.
func TestToldRight(t *testing.T) {
	all(func(source *rand.Rand, c api.Conf, e api.Est, s api.Sample) {
		sat := e.Sat
		for _, bits := range []int{24, 30, 46, 20} {
			e, _ = est.Step(c, e, s)
			if !rightEst(e) || !est.Right(e) || sat && !e.Sat {
				t.Fatalf("not right, or Sat is lost: %v", e)
			}
			s, sat = mixedSample(source, bits), e.Sat
		}
	})
	for _, e := range edgeEsts() {
		for _, n := range append(beyond(), top, low, 0) {
			v := api.Vec{n, n, n}
			for _, c := range []api.Conf{plain(one), {Dt: 1, Acc: 1, Bias: 1, Baro: 1, Gnss: 1, Gate: 1}, {Dt: most, Acc: most, Bias: most, Baro: most, Gnss: most, Gate: most}} {
				got, _ := est.Step(c, e, api.Sample{Gyro: v, Acc: v, HasBaro: true, Baro: n, HasGnss: true, Gnss: v})
				if !rightEst(got) || !est.Right(got) || e.Sat && !got.Sat {
					t.Fatalf("not right, or Sat is lost: %v", got)
				}
			}
		}
	}
}

// TestSatStays: P6.4: over many steps at which no bound is met.
func TestSatStays(t *testing.T) {
	e := begun()
	e, _ = est.Step(plain(9*one), e, api.Sample{HasBaro: true, Baro: top + 1})
	e.Off = [4]int{}
	clean := changed(e, func(e *api.Est) { e.Sat = false })
	for range 50 {
		e, _ = est.Step(plain(9*one), e, api.Sample{HasGnss: true})
		clean, _ = est.Step(plain(9*one), clean, api.Sample{HasGnss: true})
		if !e.Sat || clean.Sat || !equal(changed(e, func(e *api.Est) { e.Sat = false }), clean) {
			t.Fatalf("%v, and %v", e, clean)
		}
	}
}

// TestToldInWords: P6.4: what was told in words is the same; other estimators have other words.
func TestToldInWords(t *testing.T) {
	var last api.Est
	check := func(e api.Est) {
		t.Helper()
		l := est.Words(e)
		got, bad := est.Of(l)
		if len(l) != api.EstWords || bad != api.OK || !est.Same(got, e) || !equal(got, e) {
			t.Errorf("%v, in words %v: %v, %d", e, l, got, bad)
		}
		if est.Same(e, last) != slices.Equal(l, est.Words(last)) {
			t.Errorf("%v and %v", e, last)
		}
		last = e
	}
	check(begun())
	check(begun())
	for _, e := range edgeEsts() {
		check(e)
	}
	all(func(_ *rand.Rand, c api.Conf, e api.Est, s api.Sample) {
		check(e)
		behind, _ := est.Step(c, e, s)
		check(behind)
	})
}

// TestGoesOnFromWords: an estimator that was told in words goes on as the one that told them.
func TestGoesOnFromWords(t *testing.T) {
	c := plain(25 * one)
	c.Dt = one / 10
	a, b := begun(), begun()
	flight(100, func(s api.Sample) {
		var first, second api.Vec
		a, first = est.Step(c, a, s)
		b, second = est.Step(c, b, s)
		if first != second || !est.Same(a, b) {
			t.Fatalf("%v, %v and %v, %v", a, first, b, second)
		}
		b, _ = est.Of(est.Words(b))
	})
}

// spoilt writes over all memory that an estimator may share.
func spoilt(e api.Est) {
	for _, axis := range e.Axes {
		for _, l := range [][]api.Q{axis.X.L, axis.P.L} {
			for i := range l[:cap(l)] {
				l[:cap(l)][i] = 99
			}
		}
	}
}

// TestMemory: what is handed in stays as it was, and what comes out is another one's memory.
func TestMemory(t *testing.T) {
	all(func(_ *rand.Rand, c api.Conf, e api.Est, s api.Sample) {
		was := kept(e)
		got, _ := est.Step(c, e, s)
		still := kept(got)
		again, _ := est.Step(c, e, s)
		spoilt(again)
		l := est.Words(e)
		words := slices.Clone(l)
		back, _ := est.Of(l)
		spoilt(back)
		if !equal(e, was) || !equal(got, still) || !slices.Equal(l, words) {
			t.Fatalf("changed: %v, %v, %v", e, got, l)
		}
		back, _ = est.Of(l)
		for i := range l {
			l[i] = 98
		}
		if !equal(e, was) || !equal(back, was) {
			t.Fatalf("changed by its words: %v, %v", e, back)
		}
	})
	a, _ := est.Init(plain(one))
	spoilt(a)
	b, _ := est.Init(plain(one))
	if !equal(b, begun()) {
		t.Error("changed:", b)
	}
	for i := range b.Axes {
		b.Axes[i].X.L[0], b.Axes[i].P.L[0] = api.Q(i), api.Q(i)
	}
	for i, axis := range b.Axes {
		if axis.X.L[0] != api.Q(i) || axis.P.L[0] != api.Q(i) {
			t.Error("axes share memory:", b)
		}
	}
}

// TestSameAgain: the same is answered to the same arguments.
func TestSameAgain(t *testing.T) {
	all(func(_ *rand.Rand, c api.Conf, e api.Est, s api.Sample) {
		a, first := est.Step(c, e, s)
		b, second := est.Step(c, kept(e), s)
		if !equal(a, b) || first != second {
			t.Errorf("%v, %v and %v, %v", a, first, b, second)
		}
	})
}

// TestWrong: no call goes wrong at what isn't right, or may not be; there is nothing then.
func TestWrong(t *testing.T) {
	full := api.Sample{HasBaro: true, Baro: one, HasGnss: true, Gnss: api.Vec{one, one, one}}
	for _, e := range wrongEsts(begun()) {
		for _, s := range []api.Sample{{}, {Missing: true}, full} {
			if got, y := est.Step(plain(one), e, s); !equal(got, api.Est{}) || y != (api.Vec{}) {
				t.Errorf("Step of %v: %v, %v", e, got, y)
			}
		}
		if l := est.Words(e); len(l) != 0 {
			t.Errorf("Words(%v): %v", e, l)
		}
		if est.Same(e, begun()) || !est.Same(e, e) {
			t.Errorf("Same of %v", e)
		}
	}
	for _, c := range wrongConfs() {
		if got, y := est.Step(c, begun(), full); !equal(got, api.Est{}) || y != (api.Vec{}) {
			t.Errorf("Step by %v: %v, %v", c, got, y)
		}
	}
}
