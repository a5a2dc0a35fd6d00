package est_test

import (
	"math"
	"math/rand"
	"slices"
	"strings"
	"testing"

	"alidade/api"
	"alidade/est"
)

// tally counts how often something was told, so that a test sees both.
type tally [2]int

func (c *tally) add(told bool) {
	if told {
		c[1]++
	} else {
		c[0]++
	}
}

func (c *tally) check(t *testing.T, what string) {
	t.Helper()
	if c[0] < 100 || c[1] < 100 {
		t.Errorf("%s: always, never or nearly so: %v", what, *c)
	}
}

// confWith is a setting with another number at one place.
func confWith(c api.Conf, place int, n api.Q) api.Conf {
	*[]*api.Q{&c.Dt, &c.Acc, &c.Bias, &c.Baro, &c.Gnss, &c.Gate}[place] = n
	return c
}

// wrongConfs are settings that may not be.
func wrongConfs() []api.Conf {
	list := []api.Conf{{}}
	for place := range 6 {
		for _, n := range append(beyond(), 0, -1, low, -one, most+1, top) {
			list = append(list, confWith(plain(one), place, n))
		}
	}
	return list
}

// TestMay: P6.1: all above 0, and at most 1024.
func TestMay(t *testing.T) {
	for place := range 6 {
		for _, n := range []api.Q{1, 2, one - 1, one, 1000 * one, most - 1, most} {
			if c := confWith(plain(one), place, n); !est.May(c) {
				t.Errorf("May(%v): no", c)
			}
		}
	}
	for _, c := range wrongConfs() {
		if est.May(c) {
			t.Errorf("May(%v): yes", c)
		}
	}
}

// TestInit: P6.1.
func TestInit(t *testing.T) {
	for _, c := range []api.Conf{plain(one), {Dt: 1, Acc: 1, Bias: 1, Baro: 1, Gnss: 1, Gate: 1}, {Dt: most, Acc: most, Bias: most, Baro: most, Gnss: most, Gate: most}} {
		if e, bad := est.Init(c); bad != api.OK || !equal(e, begun()) || !est.Right(e) {
			t.Errorf("Init(%v): %v, %d", c, e, bad)
		}
	}
	for _, c := range wrongConfs() {
		if e, bad := est.Init(c); bad != api.ErrArg || !equal(e, api.Est{}) {
			t.Errorf("Init(%v): %v, %d", c, e, bad)
		}
	}
}

// otherMats are matrices that no axis has: of other sizes, or laid wrong.
func otherMats() []api.Mat {
	of := func(r, c, long int) api.Mat { return api.Mat{R: r, C: c, L: make([]api.Q, long)} }
	return []api.Mat{
		{}, of(1, 1, 1), of(2, 1, 2), of(4, 1, 4), of(1, 3, 3), of(2, 2, 4), of(4, 4, 16), of(3, 2, 6), of(2, 3, 6), of(9, 1, 9), of(1, 9, 9),
		of(3, 3, 0), of(3, 3, 8), of(3, 3, 10), of(3, 1, 2), of(3, 1, 4), of(3, 1, 0), of(0, 0, 0), of(0, 0, 9), of(8, 8, 64), of(9, 9, 81),
		of(-3, -3, 9), of(-3, -1, 3), of(math.MaxInt, math.MaxInt, 1), of(math.MinInt, math.MinInt, 0), of(1<<62, 4, 0), of(1<<32, 1<<32, 0),
	}
}

// wrongEsts are estimators that aren't right, each in one way, beside a right one.
func wrongEsts(e api.Est) []api.Est {
	list := []api.Est{{}}
	add := func(do func(e *api.Est)) { list = append(list, changed(e, do)) }
	for _, out := range beyond() {
		for i := range e.Turn {
			add(func(e *api.Est) { e.Turn[i] = out })
		}
		for i := range e.Axes {
			for place := range 3 {
				add(func(e *api.Est) { e.Axes[i].X.L[place] = out })
				for other := range 3 {
					add(func(e *api.Est) { e.Axes[i].P.L[3*place+other], e.Axes[i].P.L[3*other+place] = out, out })
				}
			}
		}
	}
	for i := range e.Axes {
		for _, place := range []int{1, 2, 3, 5, 6, 7} {
			add(func(e *api.Est) { e.Axes[i].P.L[place] ^= 1 })
		}
		for _, place := range []int{0, 4, 8} {
			add(func(e *api.Est) { e.Axes[i].P.L[place] = -1 })
			add(func(e *api.Est) { e.Axes[i].P.L[place] = low })
		}
		add(func(e *api.Est) { e.Axes[i] = api.Track{} })
		for _, m := range otherMats() {
			add(func(e *api.Est) { e.Axes[i].X = m })
			add(func(e *api.Est) { e.Axes[i].P = m })
			add(func(e *api.Est) { e.Axes[i] = api.Track{X: m, P: m} })
		}
		for _, n := range []int{1, 2, 4, 8} { // right tracks, but not of three
			add(func(e *api.Est) {
				e.Axes[i] = api.Track{X: api.Mat{R: n, C: 1, L: make([]api.Q, n)}, P: api.Mat{R: n, C: n, L: make([]api.Q, n*n)}}
			})
		}
	}
	for _, n := range []int{-1, math.MinInt, math.MaxInt, 1<<40 + 1} {
		add(func(e *api.Est) { e.Steps = n })
	}
	for _, n := range []int{-1, math.MinInt, math.MaxInt, 1001} {
		add(func(e *api.Est) { e.Coast = n })
		for i := range e.Off {
			add(func(e *api.Est) { e.Off[i] = n })
		}
	}
	return list
}

// edgeEsts are estimators that are right, at the bounds of what is.
func edgeEsts() []api.Est {
	var list []api.Est
	for _, n := range []api.Q{top, low, 0} {
		for _, vary := range []api.Q{0, top} {
			e := api.Est{Turn: api.Quat{n, n, n, n}, Steps: 1 << 40, Coast: 1000, Off: [4]int{1000, 1000, 1000, 1000}, Sat: n == 0}
			for i := range e.Axes {
				e.Axes[i] = axis(n, n, n, vary, n, n, vary, n, vary)
			}
			list = append(list, e)
		}
	}
	return list
}

// TestRight: P6.1: what is right, and what isn't, in each way.
func TestRight(t *testing.T) {
	all(func(_ *rand.Rand, _ api.Conf, e api.Est, _ api.Sample) {
		if !est.Right(e) {
			t.Errorf("not right: %v", e)
		}
	})
	for _, e := range append(edgeEsts(), begun()) {
		if !est.Right(e) {
			t.Errorf("not right: %v", e)
		}
	}
	for _, e := range wrongEsts(begun()) {
		if est.Right(e) || rightEst(e) {
			t.Errorf("right: %v", e)
		}
	}
}

// TestSame: P6.1: the same, and other in each one thing.
func TestSame(t *testing.T) {
	all(func(_ *rand.Rand, _ api.Conf, e api.Est, _ api.Sample) {
		if !est.Same(e, e) || !est.Same(e, kept(e)) {
			t.Errorf("not the same: %v", e)
		}
		other := func(do func(e *api.Est)) {
			t.Helper()
			if b := changed(e, do); est.Same(e, b) || est.Same(b, e) {
				t.Errorf("the same: %v, %v", e, b)
			}
		}
		for i := range e.Turn {
			other(func(e *api.Est) { e.Turn[i] ^= 1 })
			other(func(e *api.Est) { e.Off[i] ^= 1 })
		}
		for i := range e.Axes {
			for place := range e.Axes[i].X.L {
				other(func(e *api.Est) { e.Axes[i].X.L[place] ^= 1 })
			}
			for place := range e.Axes[i].P.L {
				other(func(e *api.Est) { e.Axes[i].P.L[place] ^= 1 })
			}
		}
		other(func(e *api.Est) { e.Steps++ })
		other(func(e *api.Est) { e.Coast++ })
		other(func(e *api.Est) { e.Sat = !e.Sat })
	})
	if !est.Same(api.Est{}, api.Est{}) || est.Same(api.Est{}, begun()) || est.Same(begun(), api.Est{}) {
		t.Error("nothing isn't the same as nothing, or is as something")
	}
}

// TestStep: P6.2, number by number.
func TestStep(t *testing.T) {
	var met, missing, taken tally
	all(func(_ *rand.Rand, c api.Conf, e api.Est, s api.Sample) {
		var r reckoner
		want, out := r.step(c, e, s)
		got, y := est.Step(c, e, s)
		if !equal(got, want) || y != out {
			t.Errorf("Step(%v, %v, %v): %v, %v, not %v, %v", c, e, s, got, y, want, out)
		}
		met.add(want.Sat)
		missing.add(s.Missing)
		if !s.Missing && s.HasBaro {
			taken.add(want.Off[0] == 0)
		}
	})
	met.check(t, "bounds")
	missing.check(t, "missing")
	taken.check(t, "taken")
}

// TestFlight: P6.2, number by number, of samples as they come; nowhere is a bound met.
func TestFlight(t *testing.T) {
	c := api.Conf{Dt: one / 10, Acc: one / 4, Bias: one / 1000, Baro: 2 * one, Gnss: 4 * one, Gate: 25 * one}
	e, want := begun(), begun()
	steps := 0
	flight(300, func(s api.Sample) {
		var r reckoner
		var y, out api.Vec
		want, out = r.step(c, want, s)
		e, y = est.Step(c, e, s)
		steps++
		if !equal(e, want) || y != out || e.Sat || e.Steps != steps {
			t.Fatalf("behind %d: %v, %v, not %v, %v", steps, e, y, want, out)
		}
		for i, n := range y {
			if n > 100*one || n < -100*one {
				t.Fatalf("behind %d: axis %d is astray: %v", steps, i, y)
			}
		}
	})
}

// TestStepOrder: P6.2: it is turned first, and sped up as it is turned then; it is told on ahead of being held.
func TestStepOrder(t *testing.T) {
	c := plain(111 * one)
	near := func(n, want api.Q) bool { return n-want < 64 && want-n < 64 }
	told := axis(0, 0, 0, 110*one, 10*one, 0, 12*one, -one, 2*one)

	e, y := est.Step(c, begun(), api.Sample{Missing: true, Acc: api.Vec{one, one, one}})
	want := changed(begun(), func(e *api.Est) { e.Axes, e.Steps, e.Coast = [3]api.Track{told, told, told}, 1, 1 })
	if !equal(e, want) || y != (api.Vec{}) {
		t.Errorf("missing: %v, %v", e, y)
	}

	// A quarter of a turn about the third axis, then the first axis is where the second one was.
	e, _ = est.Step(c, begun(), api.Sample{Gyro: api.Vec{0, 0, 2 * one}, Acc: api.Vec{3 * one, 0, 5 * one}})
	if !near(e.Axes[0].X.L[1], 0) || !near(e.Axes[1].X.L[1], 3*one) || !near(e.Axes[2].X.L[1], 5*one) || e.Turn[0] != e.Turn[3] || e.Turn[1] != 0 {
		t.Errorf("turned: %v", e)
	}

	// The turn that is there comes first in the product: the third axis about itself, ahead of the first one.
	e, _ = est.Step(c, e, api.Sample{Gyro: api.Vec{2 * one, 0, 0}})
	half := api.Q(one / 2)
	for i, n := range e.Turn {
		if !near(n, half) {
			t.Errorf("turned twice: place %d, %v", i, e.Turn)
		}
	}

	// The barometer is held against the third axis as told on: it varies by 110 and 1, and the gate is just met.
	e, y = est.Step(c, begun(), api.Sample{HasBaro: true, Baro: 111 * one})
	if y[0] != 0 || y[1] != 0 || !near(y[2], 110*one) || !near(e.Axes[2].X.L[1], 10*one) || !near(e.Axes[2].P.L[0], one*110/111) || e.Off != [4]int{} {
		t.Errorf("barometer: %v, %v", e, y)
	}
	e, y = est.Step(c, begun(), api.Sample{HasBaro: true, Baro: 111*one + 1})
	if y != (api.Vec{}) || e.Off != [4]int{1} || !equalMat(e.Axes[2].P, told.P) {
		t.Errorf("barometer above the gate: %v, %v", e, y)
	}

	// What speeds it up changes the speed only behind the place, and is there when the axis is held.
	e, y = est.Step(c, begun(), api.Sample{Acc: api.Vec{7 * one, 0, 0}, HasGnss: true, Gnss: api.Vec{0, -111 * one, 1000 * one}})
	if y[0] != 0 || e.Axes[0].X.L[1] != 7*one || !near(y[1], -110*one) || y[2] != 0 || e.Off != [4]int{0, 0, 0, 1} {
		t.Errorf("sped up, and held: %v, %v", e, y)
	}
	e, y = est.Step(c, e, api.Sample{Missing: true})
	if !near(y[0], 7*one) || e.Off != [4]int{0, 0, 0, 1} || e.Coast != 1 {
		t.Errorf("missing, sped up ahead: %v, %v", e, y)
	}
}

// TestSensors: P6.2: which axis each sensor is held against, by which setting, and where it is counted.
func TestSensors(t *testing.T) {
	off := [4]int{7, 1000, 999, 0}
	from := changed(begun(), func(e *api.Est) { e.Off, e.Coast, e.Steps = off, 5, 1<<40 })
	far := api.Vec{1000 * one, 1000 * one, 1000 * one}
	for _, x := range []struct {
		name  string
		s     api.Sample
		off   [4]int
		coast int
	}{
		{"none", api.Sample{Baro: far[0], Gnss: far}, off, 0},
		{"the barometer, near", api.Sample{HasBaro: true, Gnss: far}, [4]int{0, 1000, 999, 0}, 0},
		{"the barometer, far", api.Sample{HasBaro: true, Baro: far[0], Gnss: far}, [4]int{8, 1000, 999, 0}, 0},
		{"gnss, near", api.Sample{HasGnss: true, Baro: far[0]}, [4]int{7, 0, 0, 0}, 0},
		{"gnss, far", api.Sample{HasGnss: true, Gnss: far, Baro: far[0]}, [4]int{7, 1000, 1000, 1}, 0},
		{"gnss, the first one far", api.Sample{HasGnss: true, Gnss: api.Vec{far[0], 0, 0}}, [4]int{7, 1000, 0, 0}, 0},
		{"gnss, the second one far", api.Sample{HasGnss: true, Gnss: api.Vec{0, far[0], 0}}, [4]int{7, 0, 1000, 0}, 0},
		{"gnss, the third one far", api.Sample{HasGnss: true, Gnss: api.Vec{0, 0, far[0]}}, [4]int{7, 0, 0, 1}, 0},
		{"both, far", api.Sample{HasBaro: true, HasGnss: true, Baro: far[0], Gnss: far}, [4]int{8, 1000, 1000, 1}, 0},
		{"missing", api.Sample{Missing: true, HasBaro: true, HasGnss: true, Baro: far[0], Gnss: far}, off, 6},
		{"missing, near", api.Sample{Missing: true, HasBaro: true, HasGnss: true}, off, 6},
	} {
		got, _ := est.Step(plain(9*one), from, x.s)
		if got.Off != x.off || got.Coast != x.coast || got.Steps != 1<<40 || got.Sat {
			t.Errorf("%s: %v, %d, %d, %t", x.name, got.Off, got.Coast, got.Steps, got.Sat)
		}
	}

	// How a sensor varies is the setting's number of that sensor.
	c := plain(one)
	c.Baro, c.Gnss = 1, most
	e, y := est.Step(c, begun(), api.Sample{HasBaro: true, Baro: one, HasGnss: true, Gnss: api.Vec{one, one, one}})
	if y[2] < one-one/100 || y[0] > one/5 || y[0] != y[1] || e.Off != [4]int{} {
		t.Errorf("varying: %v, %v", e, y)
	}
}

// TestCounts: P6.2: how far is counted.
func TestCounts(t *testing.T) {
	for _, x := range []struct{ coast, steps, missing, behind int }{
		{0, 0, 1, 1}, {1, 1, 2, 2}, {998, 1<<40 - 2, 999, 1<<40 - 1}, {999, 1<<40 - 1, 1000, 1 << 40}, {1000, 1 << 40, 1000, 1 << 40},
	} {
		from := changed(begun(), func(e *api.Est) { e.Coast, e.Steps = x.coast, x.steps })
		if got, _ := est.Step(plain(one), from, api.Sample{Missing: true}); got.Coast != x.missing || got.Steps != x.behind {
			t.Errorf("%v, missing: %d, %d", x, got.Coast, got.Steps)
		}
		if got, _ := est.Step(plain(one), from, api.Sample{}); got.Coast != 0 || got.Steps != x.behind {
			t.Errorf("%v: %d, %d", x, got.Coast, got.Steps)
		}
		from = changed(begun(), func(e *api.Est) { e.Off = [4]int{x.coast, x.coast, x.coast, x.coast} })
		far := api.Sample{HasBaro: true, Baro: 1000 * one, HasGnss: true, Gnss: api.Vec{1000 * one, 1000 * one, 1000 * one}}
		if got, _ := est.Step(plain(one), from, far); got.Off != [4]int{x.missing, x.missing, x.missing, x.missing} {
			t.Errorf("%v: %v", x, got.Off)
		}
	}
}

// TestBoundAlone: P6.2: a bound that is met at one part alone is told by Sat, whichever part it is. (The product with a small turn meets one only where Unit of it does.)
func TestBoundAlone(t *testing.T) {
	fine, double := plain(9*one), plain(9*one)
	fine.Dt, double.Dt = 1, 2*one
	same := func(*api.Est) {}
	type row struct {
		parts string
		c     api.Conf
		do    func(e *api.Est)
		s     api.Sample
	}
	list := []row{
		{"", plain(9 * one), same, api.Sample{}},
		{"small", fine, same, api.Sample{Gyro: api.Vec{0, low - 1, 0}}},
		{"unit", fine, func(e *api.Est) { e.Turn = api.Quat{} }, api.Sample{}},
		{"unit", fine, func(e *api.Est) { e.Turn = api.Quat{1 << 35, 0, 0, 0} }, api.Sample{}},
		{"", fine, func(e *api.Est) { e.Turn = api.Quat{1<<35 - 1, 0, 0, 0} }, api.Sample{}},
		{"", fine, func(e *api.Est) { e.Turn = api.Quat{} }, api.Sample{Missing: true}},
	}
	for i := range 3 {
		name := string(rune('0' + i))
		at := func(n api.Q) (v api.Vec) { v[i] = n; return v }
		list = append(list,
			row{"turn", fine, same, api.Sample{Acc: at(top + 1)}},
			row{"", fine, same, api.Sample{Acc: at(top)}},
			row{"predict " + name, plain(9 * one), func(e *api.Est) { e.Axes[i].X.L[0], e.Axes[i].X.L[1] = top, 1 }, api.Sample{Missing: true}},
			row{"", plain(9 * one), func(e *api.Est) { e.Axes[i].X.L[0], e.Axes[i].X.L[1] = top-1, 1 }, api.Sample{Missing: true}},
			row{"more " + name, double, same, api.Sample{Acc: at(1 << 45)}},
			row{"", double, same, api.Sample{Acc: at(1<<45 - 1)}},
			row{"speed " + name, plain(9 * one), func(e *api.Est) { e.Axes[i].X.L[1] = top }, api.Sample{Acc: at(1)}},
			row{"", plain(9 * one), func(e *api.Est) { e.Axes[i].X.L[1] = top - 1 }, api.Sample{Acc: at(1)}},
			row{"gnss " + name, plain(9 * one), same, api.Sample{HasGnss: true, Gnss: at(top + 1)}},
			row{"", plain(9 * one), same, api.Sample{HasGnss: true, Gnss: at(1000 * one)}},
		)
	}
	list = append(list, row{"baro", plain(9 * one), same, api.Sample{HasBaro: true, Baro: low - 1}})
	for _, x := range list {
		e := changed(begun(), x.do)
		var r reckoner
		want, out := r.step(x.c, e, x.s)
		if got := strings.Join(r.parts, ", "); got != x.parts {
			t.Errorf("%q: bounds at %q", x.parts, got)
		}
		got, y := est.Step(x.c, e, x.s)
		if got.Sat != (x.parts != "") || !equal(got, want) || y != out {
			t.Errorf("%q: %v, %v, not %v, %v", x.parts, got, y, want, out)
		}
	}
}

// TestClamped: what isn't in bounds counts as the nearest that is, and is told by Sat; what isn't looked at counts for nothing.
func TestClamped(t *testing.T) {
	numbers := func(s *api.Sample) []*api.Q {
		return []*api.Q{&s.Gyro[0], &s.Gyro[1], &s.Gyro[2], &s.Acc[0], &s.Acc[1], &s.Acc[2], &s.Baro, &s.Gnss[0], &s.Gnss[1], &s.Gnss[2]}
	}
	c := plain(9 * one)
	for place := range 10 {
		for _, n := range beyond() {
			s, in := api.Sample{HasBaro: true, HasGnss: true}, api.Sample{HasBaro: true, HasGnss: true}
			*numbers(&s)[place], *numbers(&in)[place] = n, min(max(n, low), top)
			got, y := est.Step(c, begun(), s)
			want, out := est.Step(c, begun(), in)
			want.Sat = true
			if !equal(got, want) || y != out {
				t.Errorf("%d at %d: %v, not %v", n, place, got, want)
			}
			s.Missing = true
			got, _ = est.Step(c, begun(), s)
			want, _ = est.Step(c, begun(), api.Sample{Missing: true})
			if !equal(got, want) || got.Sat {
				t.Errorf("%d at %d, missing: %v, not %v", n, place, got, want)
			}
			s.Missing, s.HasBaro, s.HasGnss = false, false, false
			got, _ = est.Step(c, begun(), s)
			if got.Sat != (place < 6) || place >= 6 && got.Axes[2].X.L[0] != 0 {
				t.Errorf("%d at %d, without sensors: %v", n, place, got)
			}
		}
	}
}

// counted is an estimator of the words 1, 2, 3 and so on, and 1.
func counted() (api.Est, []int64) {
	e := api.Est{
		Turn:  api.Quat{1, 2, 3, 4},
		Axes:  [3]api.Track{axis(5, 6, 7, 8, 9, 10, 11, 12, 13), axis(14, 15, 16, 17, 18, 19, 20, 21, 22), axis(23, 24, 25, 26, 27, 28, 29, 30, 31)},
		Steps: 32, Coast: 33, Off: [4]int{34, 35, 36, 37}, Sat: true,
	}
	var l []int64
	for i := range int64(37) {
		l = append(l, i+1)
	}
	return e, append(l, 1)
}

// TestWords: P6.3: which words, and in which order.
func TestWords(t *testing.T) {
	e, l := counted()
	if got := est.Words(e); !slices.Equal(got, l) || len(got) != 38 {
		t.Errorf("words: %v", got)
	}
	if got, bad := est.Of(l); bad != api.OK || !equal(got, e) {
		t.Errorf("of words: %v, %d", got, bad)
	}
	e.Sat, l[37] = false, 0
	if got := est.Words(e); !slices.Equal(got, l) {
		t.Errorf("words, not Sat: %v", got)
	}
	if got, bad := est.Of(l); bad != api.OK || !equal(got, e) {
		t.Errorf("of words, not Sat: %v, %d", got, bad)
	}
	first, _ := est.Init(plain(one))
	want := []int64{one, 0, 0, 0}
	for range 3 {
		want = append(want, 0, 0, 0, 100*one, 0, 0, 10*one, 0, one)
	}
	if got := est.Words(first); !slices.Equal(got, append(want, 0, 0, 0, 0, 0, 0, 0)) {
		t.Errorf("words at the beginning: %v", got)
	}
}

// bounds are the least and the greatest that the word at a place may be.
func bounds(place int) (int64, int64) {
	switch {
	case place == 37:
		return 0, 1
	case place >= 32:
		return 0, 1000
	case place == 31:
		return 0, 1 << 40
	}
	if place >= 4 && slices.Contains([]int{3, 6, 8}, (place-4)%9) { // how an axis varies, on the diagonal
		return 0, top
	}
	return low, top
}

// TestOf: P6.3: each word at its bounds, and beyond them; counts of words that aren't right.
func TestOf(t *testing.T) {
	_, l := counted()
	refused := func(l []int64) {
		t.Helper()
		if e, bad := est.Of(l); bad != api.ErrForm || !equal(e, api.Est{}) {
			t.Errorf("Of(%v): %v, %d", l, e, bad)
		}
	}
	with := func(place int, n int64) []int64 {
		l := slices.Clone(l)
		l[place] = n
		return l
	}
	for place := range l {
		least, greatest := bounds(place)
		for _, n := range []int64{least, least + 1, greatest - 1, greatest} {
			words := with(place, n)
			e, bad := est.Of(words)
			if bad != api.OK || !est.Right(e) || !slices.Equal(est.Words(e), words) {
				t.Errorf("Of(%v): %v, %d", words, e, bad)
			}
		}
		for _, n := range []int64{least - 1, greatest + 1, math.MinInt64, math.MaxInt64, math.MinInt64 + 1, least - 1<<32, greatest + 1<<50, 1<<48 + 1} {
			refused(with(place, n))
		}
	}
	for _, n := range []int64{2, 3, -1, 256, 257, 1 << 32, 1<<32 + 1} {
		refused(with(37, n))
	}
	refused(nil)
	for n := range l {
		refused(l[:n])
	}
	refused(append(slices.Clone(l), 0))
	refused(append(slices.Clone(l), l...))
	refused(l[1:])
}
