package trig_test

import (
	"math"
	"testing"

	"alidade/api"
	"alidade/trig"
)

// within: whether two numbers are less than by apart.
func within(a, b, by int64) bool {
	return a-b < by && b-a < by
}

// TestTurn: P2.1.
func TestTurn(t *testing.T) {
	said := []int32{536870912, 316933406, 167458907, 85004756, 42667331, 21354465, 10679838, 5340245, 2670163, 1335087, 667544, 333772, 166886, 83443, 41722, 20861, 10430, 5215, 2608, 1304, 652, 326, 163, 81, 41, 20, 10, 5, 3, 1}
	for i, want := range said {
		if got := trig.Turn(i); got != want || int64(got) != modelTurn(i) {
			t.Errorf("Turn(%d): %d, not %d (reckoned: %d)", i, got, want, modelTurn(i))
		}
	}
	for _, i := range []int{-1, -2, -30, 30, 31, 32, 1 << 32, 1<<32 + 1, -1 << 32, math.MaxInt, math.MinInt} {
		if got := trig.Turn(i); got != 0 {
			t.Errorf("Turn(%d): %d, not 0", i, got)
		}
	}
}

// TestWrap: P2.1, and the way that goes round.
func TestWrap(t *testing.T) {
	for _, x := range []struct {
		a, b uint32
		want int32
	}{
		{0, 0, 0}, {5, 3, 2}, {3, 5, -2}, {1, 2, -1},
		{0, math.MaxUint32, 1}, {math.MaxUint32, 0, -1},
		{1 << 30, 3 << 30, -1 << 31}, {3 << 30, 1 << 30, -1 << 31},
		{1 << 31, 0, -1 << 31}, {0, 1 << 31, -1 << 31},
		{1<<31 - 1, 0, 1<<31 - 1}, {0, 1<<31 - 1, -1<<31 + 1},
		{1<<31 + 1, 0, -1<<31 + 1}, {0, 1<<31 + 1, 1<<31 - 1},
		{10, 4294967286, 20}, {4294967286, 10, -20},
	} {
		if got := trig.Wrap(x.a, x.b); got != x.want {
			t.Errorf("Wrap(%d, %d): %d, not %d", x.a, x.b, got, x.want)
		}
	}
	list := angles()
	for i, a := range list {
		b := list[(7*i+11)%len(list)]
		if got := trig.Wrap(a, b); int64(got) != round32(int64(a)-int64(b)) || b+uint32(got) != a {
			t.Errorf("Wrap(%d, %d): %d", a, b, got)
		}
	}
}

// TestSinCos: P2.2, number by number.
func TestSinCos(t *testing.T) {
	for _, a := range angles() {
		sine, cosine := trig.SinCos(a)
		wantSine, wantCosine := modelSinCos(a)
		if sine != wantSine || cosine != wantCosine {
			t.Errorf("SinCos(%d): %d %d, not %d %d", a, sine, cosine, wantSine, wantCosine)
		}
	}
}

// TestSinCosNear: P2.2: what is told are sines and cosines, and so at each edge.
func TestSinCosNear(t *testing.T) {
	for _, a := range angles() {
		sine, cosine := trig.SinCos(a)
		wantSine, wantCosine := math.Sincos(float64(a) * math.Pi / (1 << 31))
		if !within(int64(sine), int64(wantSine*(1<<24)), 3) || !within(int64(cosine), int64(wantCosine*(1<<24)), 3) {
			t.Errorf("SinCos(%d): %d %d, but %v %v", a, sine, cosine, wantSine, wantCosine)
		}
	}
}

// TestSinCosExamples: the chapter's example (1 and 0, but for 2^-20: 16 of 2^24), and the other quarter turns.
func TestSinCosExamples(t *testing.T) {
	for _, x := range []struct {
		a            uint32
		sine, cosine int64
	}{
		{1 << 30, 1 << 24, 0}, {0, 0, 1 << 24}, {1 << 31, 0, -1 << 24}, {3 << 30, -1 << 24, 0},
		{1<<30 - 1, 1 << 24, 0}, {1<<30 + 1, 1 << 24, 0}, {3<<30 - 1, -1 << 24, 0}, {3<<30 + 1, -1 << 24, 0},
	} {
		sine, cosine := trig.SinCos(x.a)
		if !within(int64(sine), x.sine, 16) || !within(int64(cosine), x.cosine, 16) {
			t.Errorf("SinCos(%d): %d %d, not near %d %d", x.a, sine, cosine, x.sine, x.cosine)
		}
	}
}

// TestAtan: P2.3, number by number: at the edges, of all with all, and of mixed ones.
func TestAtan(t *testing.T) {
	check := func(y, x api.Q) {
		if got, want := trig.Atan(y, x), modelAtan(y, x); got != want {
			t.Errorf("Atan(%d, %d): %d, not %d", y, x, got, want)
		}
	}
	for _, y := range numbers() {
		for _, x := range numbers() {
			check(y, x)
		}
	}
	ys, xs := mixed(5000, 3), mixed(5000, 4)
	for i := range ys {
		check(ys[i], xs[i])
	}
}

// TestAtanNear: P2.3: what is told is an angle of the two numbers, on every side of both axes.
func TestAtanNear(t *testing.T) {
	sizes := []api.Q{api.One / 4, api.One, 3 * api.One, 100 * api.One, 1 << 40, api.Top}
	for _, y := range sizes {
		for _, x := range sizes {
			for _, side := range [][2]api.Q{{1, 1}, {1, -1}, {-1, 1}, {-1, -1}, {0, 1}, {0, -1}, {1, 0}, {-1, 0}} {
				sy, sx := y*side[0], x*side[1]
				want := uint32(int64(math.Round(math.Atan2(float64(sy), float64(sx)) / math.Pi * (1 << 31))))
				if off := trig.Wrap(trig.Atan(sy, sx), want); !within(int64(off), 0, 32) {
					t.Errorf("Atan(%d, %d) is %d off", sy, sx, off)
				}
			}
		}
	}
}

// TestAtanEdges: P2.3: nothing has the angle 0; what is out of bounds counts as the bound; the smallest numbers have an angle; the chapter's example.
func TestAtanEdges(t *testing.T) {
	if got := trig.Atan(0, 0); got != 0 {
		t.Errorf("Atan(0, 0): %d", got)
	}
	for _, x := range [][4]api.Q{
		{math.MaxInt64, 1, api.Top, 1},
		{math.MinInt64, 1, api.Low, 1},
		{1 << 30, math.MaxInt64, 1 << 30, api.Top},
		{1 << 30, math.MinInt64, 1 << 30, api.Low},
		{math.MinInt64, math.MinInt64, api.Low, api.Low},
		{math.MaxInt64, math.MinInt64, api.Top, api.Low},
		{1 << 46, 1 << 50, api.Top, api.Top},
		{-1<<46 - 1, 1 << 45, api.Low, 1 << 45},
	} {
		if got, want := trig.Atan(x[0], x[1]), trig.Atan(x[2], x[3]); got != want {
			t.Errorf("Atan(%d, %d): %d, but in bounds %d", x[0], x[1], got, want)
		}
	}
	for _, x := range []struct {
		y, x api.Q
		want uint32
		by   int64
	}{
		{api.One, api.One, 536870912, 1 << 8},
		{1, 1, 536870912, 1 << 18}, {1, -1, 3 << 29, 1 << 18}, {-1, -1, 5 << 29, 1 << 18}, {-1, 1, 7 << 29, 1 << 18},
		{1, 0, 1 << 30, 1 << 18}, {-1, 0, 3 << 30, 1 << 18}, {0, 1, 0, 1 << 18}, {0, -1, 1 << 31, 1 << 18},
		{0, math.MinInt64, 1 << 31, 1 << 8}, {math.MinInt64, 0, 3 << 30, 1 << 8},
	} {
		if off := trig.Wrap(trig.Atan(x.y, x.x), x.want); !within(int64(off), 0, x.by) {
			t.Errorf("Atan(%d, %d) is %d off %d", x.y, x.x, off, x.want)
		}
	}
}

// TestLaws: P2.4.
func TestLaws(t *testing.T) {
	const near = 1 << 6 // 2^-18, of 2^24
	for _, a := range angles() {
		sine, cosine := trig.SinCos(a)
		if squares := int64(sine)*int64(sine) + int64(cosine)*int64(cosine); !within(squares, 1<<48, 1<<30) {
			t.Errorf("%d: the squares come to %d", a, squares)
		}
		if s, c := trig.SinCos(a + 1<<31); s != -sine || c != -cosine {
			t.Errorf("%d: %d %d, half a turn on %d %d", a, sine, cosine, s, c)
		}
		if s, c := trig.SinCos(-a); !within(int64(s), int64(-sine), near) || !within(int64(c), int64(cosine), near) {
			t.Errorf("%d: %d %d, the other way %d %d", a, sine, cosine, s, c)
		}
		if off := trig.Wrap(trig.Atan(sine, cosine), a); !within(int64(off), 0, 1<<14) {
			t.Errorf("%d: the angle of its sine and cosine is %d off", a, off)
		}
	}
}
