package mat_test

import (
	"math"
	"math/rand"
	"testing"

	"alidade/api"
	"alidade/mat"
)

// TestTurnedTwice: P3.3: turned twice a matrix is as it was.
func TestTurnedTwice(t *testing.T) {
	allSizes(func(source *rand.Rand, r, c, bits int) {
		a := mixed(source, r, c, bits)
		if got := mat.Trans(mat.Trans(a)); !mat.Same(got, a) || !equal(got, a) {
			t.Errorf("%v turned twice: %v", a, got)
		}
	})
}

// TestProductTurned: P3.3: a product turned is the turned ones' product, the other way round; so is whether a bound was met.
func TestProductTurned(t *testing.T) {
	allSizes(func(source *rand.Rand, r, c, bits int) {
		for columns := 1; columns <= 8; columns++ {
			a, b := mixed(source, r, c, bits), mixed(source, c, columns, bits)
			first, out, _ := mat.Mul(a, b)
			second, over, e := mat.Mul(mat.Trans(b), mat.Trans(a))
			if e != api.OK || out != over || !mat.Same(mat.Trans(first), second) {
				t.Errorf("%v times %v: %v, %t, turned %v, %t", a, b, first, out, second, over)
			}
		}
	})
}

// TestTimesEye: P3.3: times Eye, on both sides, a matrix is as it was.
func TestTimesEye(t *testing.T) {
	allSizes(func(source *rand.Rand, r, c, bits int) {
		a := mixed(source, r, c, bits)
		left, _ := mat.Eye(r)
		right, _ := mat.Eye(c)
		if got, out, e := mat.Mul(left, a); e != api.OK || out || !mat.Same(got, a) {
			t.Errorf("Eye times %v: %v, %t, %d", a, got, out, e)
		}
		if got, out, e := mat.Mul(a, right); e != api.OK || out || !mat.Same(got, a) {
			t.Errorf("%v times Eye: %v, %t, %d", a, got, out, e)
		}
	})
}

// TestEvenTurned: P3.3: what is Even is the same as it turned; made even anew it stays.
func TestEvenTurned(t *testing.T) {
	allSizes(func(source *rand.Rand, r, _, bits int) {
		even, _, _ := mat.Even(mixed(source, r, r, bits))
		again, _, e := mat.Even(even)
		if e != api.OK || !mat.Same(even, mat.Trans(even)) || !mat.Same(even, again) {
			t.Errorf("%v, turned %v, made even anew %v", even, mat.Trans(even), again)
		}
	})
}

// TestToldRight: what comes out of matrices that are right is right.
func TestToldRight(t *testing.T) {
	allSizes(func(source *rand.Rand, r, c, bits int) {
		a, b, square := mixed(source, r, c, bits), mixed(source, r, c, bits), mixed(source, r, r, bits)
		sum, _, _ := mat.Add(a, b)
		difference, _, _ := mat.Sub(a, b)
		product, _, _ := mat.Mul(square, a)
		scaled, _ := mat.Scale(a, square.L[0])
		even, _, _ := mat.Even(square)
		for _, m := range []api.Mat{sum, difference, product, scaled, even, mat.Trans(a)} {
			if !mat.Right(m) {
				t.Errorf("not right: %v, of %v, %v, %v", m, a, b, square)
			}
		}
	})
}

// calls are those that tell a matrix, of two that are square and of one size.
func calls(a, b api.Mat) []api.Mat {
	sum, _, _ := mat.Add(a, b)
	difference, _, _ := mat.Sub(a, b)
	product, _, _ := mat.Mul(a, b)
	scaled, _ := mat.Scale(a, one)
	even, _, _ := mat.Even(a)
	diagonal, _ := mat.Diag(a.L[:a.R])
	return []api.Mat{sum, difference, product, scaled, even, diagonal, mat.Trans(a)}
}

// TestMemory: what is handed in stays as it was, and what comes out is another one's memory.
func TestMemory(t *testing.T) {
	allSizes(func(source *rand.Rand, r, _, bits int) {
		a, b := mixed(source, r, r, bits), mixed(source, r, r, bits)
		first, second := kept(a), kept(b)
		for _, m := range calls(a, b) {
			for i := range m.L {
				m.L[i] = 99
			}
			if !equal(a, first) || !equal(b, second) {
				t.Fatalf("an operand was changed: %v, %v", a, b)
			}
		}
	})
	a, _ := mat.Eye(3)
	a.L[0] = 99
	if b, _ := mat.Eye(3); b.L[0] != one {
		t.Error("Eye was changed:", b)
	}
}

// TestWrong: no call goes wrong at matrices that aren't right; sizes that don't fit are told first, and what can't be read gives nothing.
func TestWrong(t *testing.T) {
	check := func(a, b api.Mat, fit bool, m api.Mat, out bool, e api.Errno) {
		if want := map[bool]api.Errno{false: api.ErrSize, true: api.ErrArg}[fit]; e != want || out || !nothing(m) {
			t.Errorf("%v and %v: %v, %t, %d", a, b, m, out, e)
		}
	}
	for _, a := range wrong() {
		if m := mat.Trans(a); !nothing(m) {
			t.Errorf("Trans(%v): %v", a, m)
		}
		if m, out := mat.Scale(a, top); out || !nothing(m) {
			t.Errorf("Scale(%v): %v, %t", a, m, out)
		}
		m, out, e := mat.Even(a)
		check(a, a, a.R == a.C, m, out, e)
		for _, b := range append(wrong(), of(1, 1, 1), of(2, 2, 1, 2, 3, 4), of(8, 8, make([]api.Q, 64)...)) {
			for _, x := range [][2]api.Mat{{a, b}, {b, a}} {
				a, b := x[0], x[1]
				m, out, e := mat.Add(a, b)
				check(a, b, a.R == b.R && a.C == b.C, m, out, e)
				m, out, e = mat.Sub(a, b)
				check(a, b, a.R == b.R && a.C == b.C, m, out, e)
				m, out, e = mat.Mul(a, b)
				check(a, b, a.C == b.R, m, out, e)
			}
		}
	}
}

// TestOutside: numbers out of bounds count as the nearest that is in bounds where chapter 1's calls reckon with them, and no call goes wrong.
func TestOutside(t *testing.T) {
	a := of(2, 2, math.MaxInt64, math.MinInt64, top+1, low-1)
	calls(a, a)
	if m, out := mat.Scale(a, one); !out || !equal(m, of(2, 2, top, low, top, low)) {
		t.Error(m, out)
	}
	if m, out, e := mat.Sub(a, a); e != api.OK || !out || !equal(m, of(2, 2, 0, 0, 0, 0)) {
		t.Error(m, out, e)
	}
}
