package quat_test

import (
	"math"
	"testing"

	"alidade/api"
	"alidade/quat"
)

// tally counts how often a call told that a bound was met, so that a test sees both.
type tally [2]int

func (c *tally) add(out bool) {
	if out {
		c[1]++
	} else {
		c[0]++
	}
}

func (c *tally) check(t *testing.T) {
	t.Helper()
	if c[0] == 0 || c[1] == 0 {
		t.Error("bounds were met always, or never:", *c)
	}
}

// TestMulParts: P4.1: each part with each other one, and its sign.
func TestMulParts(t *testing.T) {
	// What the first part (the row) and the second one give: 1, i, j, k are 1 to 4, with their signs.
	table := [4][4]int{{1, 2, 3, 4}, {2, -1, 4, -3}, {3, -4, -1, 2}, {4, 3, -2, -1}}
	for i, row := range table {
		for k, part := range row {
			var p, q, want api.Quat
			p[i], q[k] = 3*one, -one/2
			if part < 0 {
				want[-part-1] = 3 * one / 2
			} else {
				want[part-1] = -3 * one / 2
			}
			if got, out := quat.Mul(p, q); got != want || out {
				t.Errorf("Mul(%v, %v): %v, %t, not %v", p, q, got, out, want)
			}
		}
	}
	p, q := api.Quat{one, 2 * one, 3 * one, 4 * one}, api.Quat{5 * one, 6 * one, 7 * one, 8 * one}
	if got, out := quat.Mul(p, q); got != (api.Quat{-60 * one, 12 * one, 30 * one, 24 * one}) || out {
		t.Error(got, out)
	}
	if got, out := quat.Mul(q, p); got != (api.Quat{-60 * one, 20 * one, 14 * one, 32 * one}) || out {
		t.Error(got, out)
	}
}

// TestMul: P4.1, number by number, on whatever numbers.
func TestMul(t *testing.T) {
	var met tally
	check := func(p, q api.Quat) {
		got, out := quat.Mul(p, q)
		if want, told := modelMul(p, q); got != want || out != told {
			t.Errorf("Mul(%v, %v): %v, %t, not %v, %t", p, q, got, out, want, told)
		}
		met.add(out)
	}
	many(check)
	single(func(p api.Quat) {
		single(func(q api.Quat) { check(p, q) })
	})
	met.check(t)
}

// TestMulEdges: P4.1: products are rounded one by one, turned round by Sub, and summed in order; each sum stays in bounds, and what met a bound on the way is told.
func TestMulEdges(t *testing.T) {
	const half = one / 2
	for _, x := range []struct {
		name       string
		p, q, want api.Quat
		out        bool
	}{
		{"two halves are nothing", api.Quat{half, half}, api.Quat{1, 1}, api.Quat{0, 0}, false},
		{"1.5 and 1.5 are 2 and 2", api.Quat{half, half}, api.Quat{3, 3}, api.Quat{0, 4}, false},
		{"Low turned round", api.Quat{0, low}, api.Quat{0, one}, api.Quat{top}, true},
		{"above Low turned round", api.Quat{0, low + 1}, api.Quat{0, one}, api.Quat{top}, false},
		{"Top turned round", api.Quat{0, top}, api.Quat{0, one}, api.Quat{-top}, false},
		{"place 0: over, and back by the third", api.Quat{top, -one, one, 0}, api.Quat{one, one, 1, 0}, api.Quat{top - 1, top - one, one + 1<<22, -one - 1}, true},
		{"place 0: back first, by the second", api.Quat{top, one, -one, 0}, api.Quat{one, one, 1, 0}, api.Quat{top - one + 1, top, 1<<22 - one, 1 + one}, true},
		{"place 0: below on the way", api.Quat{low, one, 0, -one}, api.Quat{one, 1, 0, 1}, api.Quat{low + 1, one - 1<<22, -2, -one - 1<<22}, true},
		{"place 0: in bounds on the way", api.Quat{low, -one, 0, one}, api.Quat{one, 1, 0, 1}, api.Quat{low, -one - 1<<22, 2, one - 1<<22}, false},
		{"both bounds together", api.Quat{top, top}, api.Quat{one, one}, api.Quat{0, top}, true},
		{"a product leaves the bounds", api.Quat{1 << 35}, api.Quat{1 << 35}, api.Quat{top}, true},
		{"at the bound all over", api.Quat{top, low, top, low}, api.Quat{one}, api.Quat{top, low, top, low}, false},
		{"beyond the bounds", api.Quat{math.MaxInt64, math.MinInt64, top + 1, low - 1}, api.Quat{one}, api.Quat{top, low, top, low}, true},
		{"beyond, times nothing", api.Quat{0, 0, 0, low - 1}, api.Quat{}, api.Quat{}, true},
		{"nothing, times what is beyond", api.Quat{}, api.Quat{0, 0, top + 1}, api.Quat{}, true},
	} {
		if got, out := quat.Mul(x.p, x.q); got != x.want || out != x.out {
			t.Errorf("%s: Mul(%v, %v): %v, %t, not %v, %t", x.name, x.p, x.q, got, out, x.want, x.out)
		}
	}
}

// TestConj: P4.1; the real part stays as it is, whatever it is.
func TestConj(t *testing.T) {
	for _, x := range []struct{ q, want api.Quat }{
		{api.Quat{1, 2, -3, 4}, api.Quat{1, -2, 3, -4}},
		{api.Quat{}, api.Quat{}},
		{api.Quat{low, low, 0, 0}, api.Quat{low, top, 0, 0}},
		{api.Quat{top, top, low + 1, low}, api.Quat{top, -top, top, top}},
		{api.Quat{0, top + 1, low - 1, 1 << 47}, api.Quat{0, -top, top, -top}},
		{api.Quat{0, math.MaxInt64, math.MinInt64, math.MinInt64}, api.Quat{0, -top, top, top}},
		{api.Quat{math.MaxInt64, 1, 1, 1}, api.Quat{math.MaxInt64, -1, -1, -1}},
		{api.Quat{math.MinInt64, 1, 1, 1}, api.Quat{math.MinInt64, -1, -1, -1}},
	} {
		if got := quat.Conj(x.q); got != x.want {
			t.Errorf("Conj(%v): %v, not %v", x.q, got, x.want)
		}
	}
	many(func(p, _ api.Quat) {
		var r reckoner
		if got, want := quat.Conj(p), r.conj(p); got != want {
			t.Errorf("Conj(%v): %v, not %v", p, got, want)
		}
	})
}

// TestRight: P4.1: all four in bounds.
func TestRight(t *testing.T) {
	for _, q := range []api.Quat{{}, {top, top, top, top}, {low, low, low, low}, {top, low, 0, one}} {
		if !quat.Right(q) {
			t.Errorf("not right: %v", q)
		}
	}
	for _, n := range edges() {
		for place := range 4 {
			q := api.Quat{1, 2, 3, 4}
			q[place] = n
			if !quat.Right(q) {
				t.Errorf("not right: %v", q)
			}
		}
	}
	for _, n := range beyond() {
		for place := range 4 {
			q := api.Quat{1, 2, 3, 4}
			q[place] = n
			if quat.Right(q) {
				t.Errorf("right: %v", q)
			}
		}
	}
}

// TestNorm: P4.2.
func TestNorm(t *testing.T) {
	for _, x := range []struct {
		q    api.Quat
		want api.Q
		out  bool
	}{
		{api.Quat{one, 2 * one, 0, -2 * one}, 9 * one, false},
		{api.Quat{one, 2 * one, 3 * one, 4 * one}, 30 * one, false},
		{api.Quat{}, 0, false},
		{api.Quat{2896, 2896, -2896, -2896}, 0, false}, // each square is below a half
		{api.Quat{2897, 2897, -2897, -2897}, 4, false}, // each one is above it
		{api.Quat{1 << 35}, top, true},
		{api.Quat{1<<35 - 1}, 1<<46 - 1<<12, false},
		{api.Quat{0, 1<<35 - 1, 1 << 18, -1 << 17}, top, true},
		{api.Quat{1 << 34, 1 << 34, 1 << 34, 1 << 34}, top, true},
		{api.Quat{1 << 34, 1 << 34, 1 << 34, 1<<34 - 1}, 1<<46 - 1<<11, false},
		{api.Quat{low}, top, true},
		{api.Quat{0, 0, 0, math.MinInt64}, top, true},
	} {
		if got, out := quat.Norm(x.q); got != x.want || out != x.out {
			t.Errorf("Norm(%v): %d, %t, not %d, %t", x.q, got, out, x.want, x.out)
		}
	}
	var met tally
	check := func(q api.Quat) {
		got, out := quat.Norm(q)
		if want, told := modelNorm(q); got != want || out != told {
			t.Errorf("Norm(%v): %d, %t, not %d, %t", q, got, out, want, told)
		}
		met.add(out)
	}
	many(func(p, _ api.Quat) { check(p) })
	single(check)
	met.check(t)
}

// TestUnit: P4.2.
func TestUnit(t *testing.T) {
	for _, x := range []struct {
		q, want api.Quat
		out     bool
	}{
		{api.Quat{0, 3 * one, 4 * one, 0}, api.Quat{0, 10066330, 13421773, 0}, false},
		{api.Quat{one, -one, one, -one}, api.Quat{one / 2, -one / 2, one / 2, -one / 2}, false},
		{api.Quat{-7 * one}, api.Quat{-one}, false},
		{api.Quat{0, 0, 0, one / 4}, api.Quat{0, 0, 0, one}, false},
		{api.Quat{}, api.Quat{one}, true},
		{api.Quat{0, 0, -2896, 2896}, api.Quat{one}, true},            // the norm is 0, though not all are
		{api.Quat{0, 0, 0, 2897}, api.Quat{0, 0, 0, 11866112}, false}, // its norm is 1 of 2^24, the root of that 4096
		{api.Quat{0, -2897, 0, 0}, api.Quat{0, -11866112, 0, 0}, false},
		{api.Quat{top, low, 0, 0}, api.Quat{1<<35 + 1, -1<<35 - 1, 0, 0}, true}, // by the root of Top, which is 2^35 less 1
		{api.Quat{1 << 35, 0, 0, 0}, api.Quat{one, 0, 0, 0}, true},
	} {
		if got, out := quat.Unit(x.q); got != x.want || out != x.out {
			t.Errorf("Unit(%v): %v, %t, not %v, %t", x.q, got, out, x.want, x.out)
		}
	}
	var met tally
	check := func(q api.Quat) {
		got, out := quat.Unit(q)
		if want, told := modelUnit(q); got != want || out != told {
			t.Errorf("Unit(%v): %v, %t, not %v, %t", q, got, out, want, told)
		}
		met.add(out)
	}
	many(func(p, _ api.Quat) { check(p) })
	single(check)
	met.check(t)
}

// TestTurn: P4.2.
func TestTurn(t *testing.T) {
	const half = one / 2
	third := api.Quat{half, half, half, half} // a third of a turn, about what is as far from all axes
	for _, x := range []struct {
		q       api.Quat
		v, want api.Vec
		out     bool
	}{
		{api.Quat{0, 0, 0, one}, api.Vec{one, 0, 0}, api.Vec{-one, 0, 0}, false},
		{api.Quat{0, 0, 0, one}, api.Vec{one, 2 * one, 3 * one}, api.Vec{-one, -2 * one, 3 * one}, false},
		{api.Quat{0, one, 0, 0}, api.Vec{one, 2 * one, 3 * one}, api.Vec{one, -2 * one, -3 * one}, false},
		{api.Quat{0, 0, one, 0}, api.Vec{one, 2 * one, 3 * one}, api.Vec{-one, 2 * one, -3 * one}, false},
		{api.Quat{one, 0, 0, 0}, api.Vec{top, low, -5}, api.Vec{top, low, -5}, false},
		{third, api.Vec{one, 2 * one, 3 * one}, api.Vec{3 * one, one, 2 * one}, false},
		{api.Quat{half, -half, -half, -half}, api.Vec{one, 2 * one, 3 * one}, api.Vec{2 * one, 3 * one, one}, false},
		{api.Quat{2 * one, 0, 0, 0}, api.Vec{one, 2 * one, 0}, api.Vec{4 * one, 8 * one, 0}, false},
		{api.Quat{}, api.Vec{one, one, one}, api.Vec{}, false},
		{api.Quat{0, low, 0, 0}, api.Vec{}, api.Vec{}, true}, // Low turned round meets a bound, and nothing else does
		{api.Quat{0, 0, low, 0}, api.Vec{}, api.Vec{}, true},
		{api.Quat{0, 0, 0, low}, api.Vec{}, api.Vec{}, true},
		{api.Quat{low, 0, 0, 0}, api.Vec{}, api.Vec{}, false}, // the real part isn't turned round
		{api.Quat{low, low + 1, top, top}, api.Vec{}, api.Vec{}, false},
		{api.Quat{low - 1, 0, 0, 0}, api.Vec{}, api.Vec{}, true},
		{api.Quat{one, 0, 0, 0}, api.Vec{0, top + 1, 0}, api.Vec{0, top, 0}, true},
		{api.Quat{1 << 35, 0, 0, 0}, api.Vec{one, 0, -one}, api.Vec{top, 0, low}, true},
		{api.Quat{0, 1 << 35, 0, 0}, api.Vec{1 << 35, 0, 0}, api.Vec{top, 0, 0}, true}, // the part that isn't told meets a bound too
	} {
		if got, out := quat.Turn(x.q, x.v); got != x.want || out != x.out {
			t.Errorf("Turn(%v, %v): %v, %t, not %v, %t", x.q, x.v, got, out, x.want, x.out)
		}
	}
	var met tally
	check := func(q, p api.Quat) {
		v := last(p)
		got, out := quat.Turn(q, v)
		if want, told := modelTurn(q, v); got != want || out != told {
			t.Errorf("Turn(%v, %v): %v, %t, not %v, %t", q, v, got, out, want, told)
		}
		met.add(out)
	}
	many(check)
	single(func(q api.Quat) {
		check(q, api.Quat{})
		check(q, api.Quat{0, one, -5, 7})
		check(api.Quat{one / 2, one / 2, -one / 2, one / 2}, q)
	})
	met.check(t)
}

// TestSmall: P4.2; what it is by need not be in bounds, its half may be.
func TestSmall(t *testing.T) {
	for _, x := range []struct {
		v    api.Vec
		by   api.Q
		want api.Quat
		out  bool
	}{
		{api.Vec{}, one, api.Quat{one}, false},
		{api.Vec{one, 2 * one, 3 * one}, 0, api.Quat{one}, false},
		{api.Vec{0, 0, 2 * one}, one, api.Quat{11863283, 0, 0, 11863283}, false},
		{api.Vec{0, -2 * one, 0}, one, api.Quat{11863283, 0, -11863283, 0}, false},
		{api.Vec{2 * one, 2 * one, -2 * one}, one, api.Quat{one / 2, one / 2, one / 2, -one / 2}, false},
		{api.Vec{one, one, one}, 1, api.Quat{one}, false},                   // half of 1 is 0
		{api.Vec{one, one, -one}, 3, api.Quat{one, 2, 2, -2}, false},        // half of 3 is 2
		{api.Vec{one, one, -one}, -5, api.Quat{one, -2, -2, 2}, false},      // half of -5 is -2
		{api.Vec{one / 2, 0, 0}, 2, api.Quat{one}, false},                   // half of the half is 0
		{api.Vec{}, top + 1, api.Quat{one}, false},                          // its half is in bounds
		{api.Vec{}, 1<<47 - 1, api.Quat{one}, true},                         // its half is 2^46
		{api.Vec{}, 1<<47 - 2, api.Quat{one}, false},                        // its half is Top
		{api.Vec{}, -1 << 47, api.Quat{one}, false},                         // its half is Low
		{api.Vec{}, -1<<47 - 1, api.Quat{one}, false},                       // so is this one's, rounded
		{api.Vec{}, -1<<47 - 2, api.Quat{one}, true},                        // below it
		{api.Vec{}, math.MaxInt64, api.Quat{one}, true},                     // far above
		{api.Vec{0, 0, low - 1}, 0, api.Quat{one}, true},                    // what is beyond is told, though it comes to nothing
		{api.Vec{1 << 36, 0, 0}, 2 * one, api.Quat{1 << 13, 1 << 25}, true}, // the norm meets a bound
	} {
		if got, out := quat.Small(x.v, x.by); got != x.want || out != x.out {
			t.Errorf("Small(%v, %d): %v, %t, not %v, %t", x.v, x.by, got, out, x.want, x.out)
		}
	}
	var met tally
	check := func(q, p api.Quat) {
		v, by := last(q), p[0]
		got, out := quat.Small(v, by)
		if want, told := modelSmall(v, by); got != want || out != told {
			t.Errorf("Small(%v, %d): %v, %t, not %v, %t", v, by, got, out, want, told)
		}
		met.add(out)
	}
	many(check)
	single(func(q api.Quat) {
		check(q, api.Quat{one / 50})
		check(q, api.Quat{one})
		check(api.Quat{0, one, 2 * one, -3 * one}, q)
		check(api.Quat{}, q)
	})
	met.check(t)
}
