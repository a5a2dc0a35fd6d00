package qfix

import (
	"math"
	"testing"

	"alidade/api"
)

const (
	one  = api.One
	half = api.One / 2
	top  = api.Top
	low  = api.Low
	most = api.Q(math.MaxInt64)
	lest = api.Q(math.MinInt64)
)

type pairCase struct {
	a, b, n api.Q
	out     bool
}

func checkPairs(t *testing.T, name string, do func(a, b api.Q) (api.Q, bool), cases []pairCase) {
	t.Helper()
	for _, c := range cases {
		if n, out := do(c.a, c.b); n != c.n || out != c.out {
			t.Errorf("%s(%d, %d): %d %t, not %d %t", name, c.a, c.b, n, out, c.n, c.out)
		}
	}
}

func checkModel(t *testing.T, name string, do, model func(a, b api.Q) (api.Q, bool)) {
	t.Helper()
	pairs(func(a, b api.Q) {
		n, out := do(a, b)
		if m, met := model(a, b); n != m || out != met {
			t.Errorf("%s(%d, %d): %d %t, not %d %t", name, a, b, n, out, m, met)
		}
	})
}

// P1.1
func TestClamp(t *testing.T) {
	for _, c := range []struct {
		a, n api.Q
		out  bool
	}{
		{0, 0, false}, {-7, -7, false}, {one, one, false},
		{top, top, false}, {top + 1, top, true}, {most, top, true},
		{low, low, false}, {low - 1, low, true}, {lest, low, true},
	} {
		if n, out := Clamp(c.a); n != c.n || out != c.out {
			t.Errorf("Clamp(%d): %d %t", c.a, n, out)
		}
	}
}

// P1.1
func TestAdd(t *testing.T) {
	checkPairs(t, "Add", Add, []pairCase{
		{one, half, one + half, false},
		{-one, half, -half, false},
		{top, low, -1, false},
		{top - 1, 1, top, false}, {top, 1, top, true}, {top, top, top, true},
		{low + 1, -1, low, false}, {low, -1, low, true}, {low, low, low, true},
		{top + 5, -5, top - 5, true}, {-5, top + 5, top - 5, true},
		{low - 5, 5, low + 5, true}, {5, low - 5, low + 5, true},
		{most, most, top, true}, {lest, lest, low, true}, {most, lest, -1, true},
	})
	checkModel(t, "Add", Add, modelAdd)
}

// P1.1
func TestSub(t *testing.T) {
	checkPairs(t, "Sub", Sub, []pairCase{
		{one, half, half, false},
		{half, one, -half, false},
		{0, top, -top, false}, {0, low, top, true}, {-1, low, top, false},
		{top, -1, top, true}, {low, 1, low, true},
		{top + 5, 5, top - 5, true}, {low - 5, -5, low + 5, true},
		{0, top + 5, -top, true},
		{most, lest, top, true}, {lest, most, low, true}, {lest, lest, 0, true}, {most, most, 0, true},
	})
	checkModel(t, "Sub", Sub, modelSub)
}

// P1.1
func TestMul(t *testing.T) {
	checkPairs(t, "Mul", Mul, []pairCase{
		{25165824, 25165824, 37748736, false},
		{3 * one, -half, -one - half, false}, {-3 * one, -half, one + half, false},
		{0, low, 0, false}, {top, one, top, false}, {low, one, low, false},
		{1, half, 0, false}, {3, half, 2, false}, {5, half, 2, false}, {7, half, 4, false},
		{-1, half, 0, false}, {-3, half, -2, false}, {5, -half, -2, false}, {-7, half, -4, false},
		{1, half + 1, 1, false}, {-1, half + 1, -1, false}, {1, half - 1, 0, false}, {3, half - 1, 1, false},
		{low, -one, top, true}, {top, 2 * one, top, true}, {top, -2 * one, low, true},
		{top, top, top, true}, {low, low, top, true}, {low, top, low, true},
		{top + 1, 1, 1 << 22, true}, {1, top + 1, 1 << 22, true},
		{top + 1, 0, 0, true}, {0, low - 1, 0, true},
		{top + 5, one, top, true}, {low - 5, one, low, true},
		{most, most, top, true}, {lest, lest, top, true}, {most, lest, low, true},
	})
	checkModel(t, "Mul", Mul, modelMul)
}

// P1.1: a product is rounded first and held against the bounds then; what is rounded to Top or Low is in bounds.
func TestMulRoundsAheadOfBounds(t *testing.T) {
	checkPairs(t, "Mul", Mul, []pairCase{
		{11 << 22, (1<<48 - 3) / 11, top, false},        // Top and 1/4
		{2351 << 23, (1<<47 - 1) / 2351, top, true},     // Top and 1/2: the even one is above it
		{3 << 23, -(1<<47 + 1) / 3, low, false},         // Low less 1/2: the even one is Low
		{65537 << 22, -(1<<48 + 1) / 65537, low, false}, // Low less 1/4
		{one + 1, 1<<46 - 1<<22 - 1, top, false},
		{one + 1, 1<<46 - 1<<22, top, true},
		{-one - 1, 1<<46 - 1<<22, low, false},
		{-one - 1, 1<<46 - 1<<22 + 1, low, true},
	})
}

// P1.1
func TestDiv(t *testing.T) {
	checkPairs(t, "Div", Div, []pairCase{
		{one, 3 * one, 5592405, false}, {2 * one, 3 * one, 11184811, false},
		{-one, 3 * one, -5592405, false}, {2 * one, -3 * one, -11184811, false}, {-2 * one, -3 * one, 11184811, false},
		{37748736, 25165824, 25165824, false},
		{0, 5, 0, false}, {0, -5, 0, false},
		{top, one, top, false}, {low, one, low, false}, {low, -one, top, true}, {top, -one, -top, false},
		{1, 2 * one, 0, false}, {3, 2 * one, 2, false}, {5, 2 * one, 2, false},
		{-1, 2 * one, 0, false}, {-3, 2 * one, -2, false}, {5, -2 * one, -2, false},
		{1, 2*one - 1, 1, false}, {1, 2*one + 1, 0, false},
		{top, 1, top, true}, {low, 1, low, true}, {top, -1, low, true}, {low, -1, top, true},
		{top, half, top, true}, {top, low, -one, false},
		{top + 1, top, one, true}, {top, top + 1, one, true}, {low - 1, low, one, true}, {low, low - 1, one, true},
		{most, lest, -one, true}, {lest, lest, one, true}, {lest, 1, low, true}, {0, most, 0, true},
	})
	checkModel(t, "Div", Div, modelDiv)
}

// P1.1: a divisor 0.
func TestDivByNothing(t *testing.T) {
	checkPairs(t, "Div", Div, []pairCase{
		{1, 0, top, true}, {top, 0, top, true}, {most, 0, top, true},
		{-1, 0, low, true}, {low, 0, low, true}, {lest, 0, low, true},
		{0, 0, 0, true},
	})
}

// P1.1
func TestSqrt(t *testing.T) {
	for _, c := range []struct {
		a, n api.Q
		out  bool
	}{
		{0, 0, false}, {1, 4096, false}, {2, 5792, false},
		{one, one, false}, {2 * one, 23726566, false}, {4 * one, 2 * one, false}, {4*one - 1, 2*one - 1, false},
		{top, 1<<35 - 1, false}, {top + 1, 1<<35 - 1, true}, {most, 1<<35 - 1, true},
		{-1, 0, true}, {-one, 0, true}, {low, 0, true}, {low - 1, 0, true}, {lest, 0, true},
	} {
		if n, out := Sqrt(c.a); n != c.n || out != c.out {
			t.Errorf("Sqrt(%d): %d %t, not %d %t", c.a, n, out, c.n, c.out)
		}
	}
	singles(func(a int64) {
		n, out := Sqrt(api.Q(a))
		if m, met := modelSqrt(api.Q(a)); n != m || out != met {
			t.Errorf("Sqrt(%d): %d %t, not %d %t", a, n, out, m, met)
		}
	})
}

// P1.2
func TestOf(t *testing.T) {
	for _, c := range []struct {
		a   int64
		n   api.Q
		out bool
	}{
		{0, 0, false}, {1, one, false}, {-3, -3 * one, false},
		{1<<22 - 1, top - one + 1, false}, {1 << 22, top, true}, {1 << 40, top, true}, {1 << 46, top, true}, {math.MaxInt64, top, true},
		{-1 << 22, low, false}, {-1<<22 - 1, low, true}, {-1 << 40, low, true}, {-1<<46 - 1, low, true}, {math.MinInt64, low, true},
	} {
		if n, out := Of(c.a); n != c.n || out != c.out {
			t.Errorf("Of(%d): %d %t", c.a, n, out)
		}
	}
}

// P1.2
func TestRound(t *testing.T) {
	for a, n := range map[api.Q]int64{
		0: 0, one: 1, -one: -1, half: 0, -half: 0, half + 1: 1, -half - 1: -1, half - 1: 0,
		one + half: 2, -one - half: -2, one + half - 1: 1, 2*one + half: 2, -2*one - half: -2, 3*one - half - 1: 2,
		top: 1 << 22, top + 1: 1 << 22, most: 1 << 22,
		low: -1 << 22, low - 1: -1 << 22, lest: -1 << 22,
	} {
		if m := Round(a); m != n {
			t.Errorf("Round(%d): %d, not %d", a, m, n)
		}
	}
}

// P1.2
func TestHalf(t *testing.T) {
	for _, c := range []struct {
		n    int64
		by   int
		want int64
	}{
		{3, 0, 3}, {3, -1, 3}, {-3, math.MinInt, -3}, {math.MaxInt64, 0, math.MaxInt64}, {math.MinInt64, -9, math.MinInt64},
		{1, 1, 0}, {3, 1, 2}, {5, 1, 2}, {-1, 1, 0}, {-3, 1, -2}, {-5, 1, -2},
		{6, 2, 2}, {2, 2, 0}, {-6, 2, -2}, {7, 2, 2}, {5, 2, 1}, {-7, 2, -2}, {-5, 2, -1},
		{math.MaxInt64, 1, 1 << 62}, {math.MinInt64, 1, -1 << 62},
		{math.MaxInt64, 62, 2}, {math.MinInt64, 62, -2}, {math.MinInt64 + 1, 62, -2},
		{1 << 61, 62, 0}, {1<<61 + 1, 62, 1}, {-1 << 61, 62, 0}, {-1<<61 - 1, 62, -1}, {3 << 61, 62, 2},
		{1 << 62, 63, 1}, {1 << 62, 64, 1}, {1 << 62, math.MaxInt, 1}, {math.MinInt64, 63, -2}, {math.MinInt64, 1000, -2},
	} {
		if m := Half(c.n, c.by); m != c.want {
			t.Errorf("Half(%d, %d): %d, not %d", c.n, c.by, m, c.want)
		}
	}
	for by := -2; by <= 66; by++ {
		for _, n := range append(edges(), mixed(500)...) {
			if m, want := Half(n, by), modelHalf(n, by); m != want {
				t.Errorf("Half(%d, %d): %d, not %d", n, by, m, want)
			}
		}
	}
}
