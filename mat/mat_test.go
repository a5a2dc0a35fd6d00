package mat_test

import (
	"math"
	"math/rand"
	"testing"

	"alidade/api"
	"alidade/mat"
)

// TestRight: a matrix that is right, and one that isn't, in each way.
func TestRight(t *testing.T) {
	allSizes(func(source *rand.Rand, r, c, bits int) {
		a := mixed(source, r, c, bits)
		if !mat.Right(a) {
			t.Errorf("not right: %v", a)
		}
		for _, out := range []api.Q{top + 1, low - 1, math.MaxInt64, math.MinInt64} {
			for _, at := range []int{0, len(a.L) / 2, len(a.L) - 1} {
				b := kept(a)
				b.L[at] = out
				if mat.Right(b) {
					t.Errorf("right: %v", b)
				}
			}
		}
		if less, more := of(r, c, a.L[1:]...), of(r, c, append(kept(a).L, 0)...); mat.Right(less) || mat.Right(more) {
			t.Errorf("right, of one too few or too many: %v", a)
		}
	})
	for _, a := range []api.Mat{of(1, 1, top), of(1, 1, low), of(1, 2, low, top), of(8, 8, make([]api.Q, 64)...)} {
		if !mat.Right(a) {
			t.Errorf("not right: %v", a)
		}
	}
	for _, a := range wrong() {
		if mat.Right(a) {
			t.Errorf("right: %v", a)
		}
	}
}

// TestEye: P3.1.
func TestEye(t *testing.T) {
	for n := 1; n <= 8; n++ {
		a, e := mat.Eye(n)
		if e != api.OK || a.R != n || a.C != n || len(a.L) != n*n {
			t.Fatalf("Eye(%d): %v, %d", n, a, e)
		}
		for i, row := range rowsOf(a) {
			for k, got := range row {
				if i == k && got.Int64() != one || i != k && got.Sign() != 0 {
					t.Errorf("Eye(%d): %v at %d, %d", n, got, i, k)
				}
			}
		}
	}
	for _, n := range []int{0, -1, -8, 9, 10, 1 << 32, 1<<32 + 1, math.MaxInt, math.MinInt} {
		if a, e := mat.Eye(n); e != api.ErrArg || !nothing(a) {
			t.Errorf("Eye(%d): %v, %d", n, a, e)
		}
	}
	if a, _ := mat.Eye(2); !equal(a, of(2, 2, one, 0, 0, one)) {
		t.Error(a)
	}
}

// TestDiag: P3.1.
func TestDiag(t *testing.T) {
	list := []api.Q{top, -5, 0, low, 7, one, -1, 1}
	for n := 1; n <= 8; n++ {
		a, e := mat.Diag(list[:n])
		if e != api.OK || a.R != n || a.C != n || len(a.L) != n*n {
			t.Fatalf("Diag(%v): %v, %d", list[:n], a, e)
		}
		for i, row := range rowsOf(a) {
			for k, got := range row {
				if i == k && got.Int64() != int64(list[i]) || i != k && got.Sign() != 0 {
					t.Errorf("Diag(%v): %v at %d, %d", list[:n], got, i, k)
				}
			}
		}
	}
	for _, l := range [][]api.Q{
		nil, {}, make([]api.Q, 9), make([]api.Q, 100), append(list, 1),
		{top + 1}, {low - 1}, {math.MaxInt64}, {math.MinInt64},
		{0, 0, top + 1}, {top + 1, 0, 0}, {0, low - 1, 0}, {0, 0, 0, 0, 0, 0, 0, low - 1},
	} {
		if a, e := mat.Diag(l); e != api.ErrArg || !nothing(a) {
			t.Errorf("Diag(%v): %v, %d", l, a, e)
		}
	}
}

// TestTrans: P3.1.
func TestTrans(t *testing.T) {
	if got := mat.Trans(of(2, 3, 1, 2, 3, 4, 5, 6)); !equal(got, of(3, 2, 1, 4, 2, 5, 3, 6)) {
		t.Error(got)
	}
	allSizes(func(source *rand.Rand, r, c, bits int) {
		a := mixed(source, r, c, bits)
		if got := mat.Trans(a); !equal(got, modelTrans(a)) {
			t.Errorf("Trans(%v): %v", a, got)
		}
	})
}

// TestSame: P3.1; the same numbers of another size are not the same.
func TestSame(t *testing.T) {
	allSizes(func(source *rand.Rand, r, c, bits int) {
		a := mixed(source, r, c, bits)
		if !mat.Same(a, a) || !mat.Same(a, kept(a)) {
			t.Errorf("not the same: %v", a)
		}
		for at := range a.L {
			b := kept(a)
			b.L[at] ^= 1
			if mat.Same(a, b) || mat.Same(b, a) {
				t.Errorf("the same: %v, %v", a, b)
			}
		}
		if r != c && mat.Same(a, of(c, r, a.L...)) {
			t.Errorf("the same with rows and columns changed: %v", a)
		}
	})
	four := []api.Q{1, 2, 3, 4}
	if mat.Same(of(1, 4, four...), of(2, 2, four...)) || mat.Same(of(2, 2, four...), of(4, 1, four...)) || mat.Same(of(2, 1, 1, 2), of(2, 2, four...)) {
		t.Error("the same, of other sizes")
	}
	for _, a := range wrong() {
		if mat.Same(a, of(1, 1, 1)) || mat.Same(of(1, 1, 1), a) {
			t.Errorf("the same as one that is right: %v", a)
		}
	}
}

// TestAddSub: P3.2, number by number.
func TestAddSub(t *testing.T) {
	met := [2]int{}
	allSizes(func(source *rand.Rand, r, c, bits int) {
		a, b := mixed(source, r, c, bits), mixed(source, r, c, bits)
		sum, out, e := mat.Add(a, b)
		if want, told := modelAdd(a, b); e != api.OK || out != told || !equal(sum, want) {
			t.Errorf("Add(%v, %v): %v, %t, %d, not %v, %t", a, b, sum, out, e, want, told)
		}
		difference, over, e := mat.Sub(a, b)
		if want, told := modelSub(a, b); e != api.OK || over != told || !equal(difference, want) {
			t.Errorf("Sub(%v, %v): %v, %t, %d, not %v, %t", a, b, difference, over, e, want, told)
		}
		met[count(out)]++
		met[count(over)]++
	})
	if met[0] == 0 || met[1] == 0 {
		t.Error("bounds were met always, or never:", met)
	}
}

func count(b bool) int {
	if b {
		return 1
	}
	return 0
}

// TestAddSubEdges: P3.2, where a sum or a difference just stays in bounds, or just leaves them, at one place alone.
func TestAddSubEdges(t *testing.T) {
	for _, x := range []struct {
		a, b, sum  api.Q
		out        bool
		difference api.Q
		over       bool
	}{
		{top, 0, top, false, top, false},
		{top, 1, top, true, top - 1, false},
		{top - 1, 1, top, false, top - 2, false},
		{low, 0, low, false, low, false},
		{low, 1, low + 1, false, low, true},
		{low, -1, low, true, low + 1, false},
		{low + 1, 1, low + 2, false, low, false},
		{top, low, -1, false, top, true},
		{low, top, -1, false, low, true},
		{0, low, low, false, top, true},
		{-1, low, low, true, top, false},
		{top, top, top, true, 0, false},
		{low, low, low, true, 0, false},
	} {
		for at := range 6 {
			a, b := of(2, 3, make([]api.Q, 6)...), of(2, 3, 1, 1, 1, 1, 1, 1)
			sum, difference := of(2, 3, 1, 1, 1, 1, 1, 1), of(2, 3, -1, -1, -1, -1, -1, -1)
			a.L[at], b.L[at], sum.L[at], difference.L[at] = x.a, x.b, x.sum, x.difference
			if got, out, e := mat.Add(a, b); e != api.OK || out != x.out || !equal(got, sum) {
				t.Errorf("Add(%v, %v): %v, %t, %d", a, b, got, out, e)
			}
			if got, out, e := mat.Sub(a, b); e != api.OK || out != x.over || !equal(got, difference) {
				t.Errorf("Sub(%v, %v): %v, %t, %d", a, b, got, out, e)
			}
		}
	}
}

// TestMul: P3.2, number by number.
func TestMul(t *testing.T) {
	met := [2]int{}
	allSizes(func(source *rand.Rand, r, c, bits int) {
		for columns := 1; columns <= 8; columns++ {
			a, b := mixed(source, r, c, bits), mixed(source, c, columns, bits)
			got, out, e := mat.Mul(a, b)
			if want, told := modelMul(a, b); e != api.OK || out != told || !equal(got, want) {
				t.Errorf("Mul(%v, %v): %v, %t, %d, not %v, %t", a, b, got, out, e, want, told)
			}
			met[count(out)]++
		}
	})
	if met[0] == 0 || met[1] == 0 {
		t.Error("bounds were met always, or never:", met)
	}
}

// TestMulEdges: P3.2: products are rounded one by one, and summed from the first one on; each sum stays in bounds, and what met a bound on the way is told.
func TestMulEdges(t *testing.T) {
	const half = one / 2
	for _, x := range []struct {
		a, b, want api.Mat
		out        bool
	}{
		{of(1, 2, one, 2*one), of(2, 1, one, 2*one), of(1, 1, 5*one), false},
		{of(2, 1, one, 2*one), of(1, 2, one, 2*one), of(2, 2, one, 2*one, 2*one, 4*one), false},
		{of(1, 2, half, half), of(2, 1, 1, 1), of(1, 1, 0), false},                            // two halves, not one whole
		{of(1, 2, half, half), of(2, 1, 3, 3), of(1, 1, 4), false},                            // 1.5 and 1.5 are 2 and 2
		{of(1, 2, top, one), of(2, 1, one, 1), of(1, 1, top), true},                           // the sum leaves the bounds
		{of(1, 2, top, one), of(2, 1, one, -1), of(1, 1, top-1), false},                       // it doesn't
		{of(1, 3, top, one, one), of(3, 1, one, one, -one), of(1, 1, top-one), true},          // it does on the way
		{of(1, 3, top, one, one), of(3, 1, one, -one, one), of(1, 1, top), false},             // in this order it doesn't
		{of(1, 3, one, one, low), of(3, 1, -one, one, one), of(1, 1, low), false},             // from the first one on
		{of(1, 3, one, one, low), of(3, 1, one, -one, one), of(1, 1, low), false},             // likewise
		{of(1, 3, low, one, one), of(3, 1, one, -one, one), of(1, 1, low+one), true},          // below, on the way
		{of(1, 2, top, one), of(2, 1, 2*one, -one), of(1, 1, top-one), true},                  // a product leaves the bounds
		{of(1, 2, low, one), of(2, 1, -one, one), of(1, 1, top), true},                        // 2^46, and more
		{of(1, 2, low, top), of(2, 1, one, one), of(1, 1, -1), false},                         // both bounds together
		{of(2, 2, top, 0, 0, one), of(2, 2, one, 0, 0, one), of(2, 2, top, 0, 0, one), false}, // at the bound all over
	} {
		if got, out, e := mat.Mul(x.a, x.b); e != api.OK || out != x.out || !equal(got, x.want) {
			t.Errorf("Mul(%v, %v): %v, %t, %d, not %v, %t", x.a, x.b, got, out, e, x.want, x.out)
		}
	}
	for at := range 4 { // one of the numbers alone meets a bound
		a, b := of(2, 1, one, one), of(1, 2, one, one)
		a.L[at/2], b.L[at%2] = 1<<35, 1<<35
		got, out, e := mat.Mul(a, b)
		if e != api.OK || !out || got.L[at] != top || got.L[3-at] != one || got.L[at^1] != 1<<35 {
			t.Errorf("Mul(%v, %v): %v, %t, %d", a, b, got, out, e)
		}
	}
}

// TestScale: P3.2; what it is times need not be in bounds.
func TestScale(t *testing.T) {
	met := [2]int{}
	factors := []api.Q{0, 1, -1, one, -one, 2 * one, one / 2, -one / 2, one/2 + 1, 3 << 23, top, low, top + 1, low - 1, math.MaxInt64, math.MinInt64}
	allSizes(func(source *rand.Rand, r, c, bits int) {
		a := mixed(source, r, c, bits)
		for _, k := range append(factors, mixed(source, 1, 1, bits).L[0]) {
			got, out := mat.Scale(a, k)
			if want, told := modelScale(a, k); out != told || !equal(got, want) {
				t.Errorf("Scale(%v, %d): %v, %t, not %v, %t", a, k, got, out, want, told)
			}
			met[count(out)]++
		}
	})
	if met[0] == 0 || met[1] == 0 {
		t.Error("bounds were met always, or never:", met)
	}
	for at := range 4 { // one of the numbers alone meets a bound
		a, want := of(2, 2, 1, 2, 3, 4), of(2, 2, 2, 4, 6, 8)
		a.L[at], want.L[at] = top, top
		if got, out := mat.Scale(a, 2*one); !out || !equal(got, want) {
			t.Errorf("Scale(%v, 2): %v, %t", a, got, out)
		}
	}
	if got, out := mat.Scale(of(1, 3, 1, 3, 5), one/2); out || !equal(got, of(1, 3, 0, 2, 2)) {
		t.Error(got, out)
	}
}

// TestEven: P3.2; of halves the even one is told, and nothing leaves the bounds.
func TestEven(t *testing.T) {
	for _, x := range []struct{ a, b, want api.Q }{
		{2, 5, 4}, {2, 3, 2}, {0, 1, 0}, {1, 2, 2}, {3, 4, 4}, {5, 6, 6}, {4, 5, 4},
		{-1, 0, 0}, {-2, -1, -2}, {-2, -3, -2}, {-4, -3, -4}, {-1, 2, 0}, {-2, 1, 0}, {-3, 0, -2}, {3, 0, 2},
		{1, 3, 2}, {2, 6, 4}, {-1, 1, 0}, {5, 5, 5},
		{top, top, top}, {low, low, low}, {top, low, 0}, {top, top - 1, top - 1}, {top, top - 2, top - 1}, {low, low + 1, low}, {low, low + 2, low + 1}, {top, 0, 1 << 45}, {low, 0, -1 << 45}, {top, 1, 1 << 45},
	} {
		a := of(2, 2, 7, x.a, x.b, low)
		if got, out, e := mat.Even(a); e != api.OK || out || !equal(got, of(2, 2, 7, x.want, x.want, low)) {
			t.Errorf("Even(%v): %v, %t, %d", a, got, out, e)
		}
	}
	allSizes(func(source *rand.Rand, r, c, bits int) {
		a := mixed(source, r, c, bits)
		got, out, e := mat.Even(a)
		if r != c {
			if e != api.ErrSize || out || !nothing(got) {
				t.Errorf("Even(%v): %v, %t, %d", a, got, out, e)
			}
			return
		}
		if want := modelEven(a); e != api.OK || out || !equal(got, want) {
			t.Errorf("Even(%v): %v, %t, %d, not %v", a, got, out, e, want)
		}
		for i := range r {
			if got.L[i*r+i] != a.L[i*r+i] {
				t.Errorf("Even(%v) changes the diagonal: %v", a, got)
			}
		}
	})
}

// TestSizes: P3.2: two of each size, and which of them fit.
func TestSizes(t *testing.T) {
	refused := func(m api.Mat, out bool, e api.Errno) bool { return nothing(m) && !out && e == api.ErrSize }
	for i := range 8 * 8 {
		for k := range 8 * 8 {
			a, b := of(1+i/8, 1+i%8, make([]api.Q, (1+i/8)*(1+i%8))...), of(1+k/8, 1+k%8, make([]api.Q, (1+k/8)*(1+k%8))...)
			if i != k && (!refused(mat.Add(a, b)) || !refused(mat.Sub(a, b))) {
				t.Errorf("Add or Sub of %d, %d and %d, %d", a.R, a.C, b.R, b.C)
			}
			m, out, e := mat.Mul(a, b)
			if a.C != b.R && !refused(m, out, e) || a.C == b.R && (m.R != a.R || m.C != b.C || e != api.OK) {
				t.Errorf("Mul of %d, %d and %d, %d: %v, %t, %d", a.R, a.C, b.R, b.C, m, out, e)
			}
		}
	}
}
