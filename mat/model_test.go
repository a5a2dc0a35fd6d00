package mat_test

import (
	"math"
	"math/big"
	"math/rand"
	"slices"

	"alidade/api"
)

// The model holds a matrix as rows of whole numbers of any size, and brings in bounds what the chapters say: it shares neither how numbers lie nor how they are reckoned with the package.

type rows [][]*big.Int

const (
	one = 1 << 24
	top = 1<<46 - 1
	low = -1 << 46
)

func whole(n int64) *big.Int { return big.NewInt(n) }

// rowsOf cuts a matrix into its rows.
func rowsOf(a api.Mat) rows {
	var list rows
	for rest := a.L; len(rest) > 0; rest = rest[a.C:] {
		var row []*big.Int
		for _, n := range rest[:a.C] {
			row = append(row, whole(int64(n)))
		}
		list = append(list, row)
	}
	return list
}

// matOf lays rows behind one another.
func matOf(list rows) api.Mat {
	a := api.Mat{R: len(list), C: len(list[0])}
	for _, row := range list {
		for _, n := range row {
			a.L = append(a.L, api.Q(n.Int64()))
		}
	}
	return a
}

// bound is a number in bounds; what wasn't is told.
func bound(n *big.Int, met *bool) *big.Int {
	if n.Cmp(whole(top)) > 0 {
		*met = true
		return whole(top)
	}
	if n.Cmp(whole(low)) < 0 {
		*met = true
		return whole(low)
	}
	return n
}

// nearest is a number by another one that is above 0, rounded: of two that are as near the even one.
func nearest(n, by *big.Int) *big.Int {
	floor, rest := new(big.Int).DivMod(n, by, new(big.Int))
	side := rest.Lsh(rest, 1).Cmp(by)
	if side > 0 || side == 0 && floor.Bit(0) == 1 {
		floor.Add(floor, whole(1))
	}
	return floor
}

// product is what chapter 1 says of Mul.
func product(a, b *big.Int, met *bool) *big.Int {
	return bound(nearest(new(big.Int).Mul(bound(a, met), bound(b, met)), whole(one)), met)
}

// modelAdd and modelSub are what P3.2 says, of two of the same size.
func modelAdd(a, b api.Mat) (api.Mat, bool) {
	return modelPaired(a, b, (*big.Int).Add)
}

func modelSub(a, b api.Mat) (api.Mat, bool) {
	return modelPaired(a, b, (*big.Int).Sub)
}

func modelPaired(a, b api.Mat, call func(z, x, y *big.Int) *big.Int) (api.Mat, bool) {
	left, right, met := rowsOf(a), rowsOf(b), false
	for i, row := range left {
		for k, n := range row {
			row[k] = bound(call(new(big.Int), n, right[i][k]), &met)
		}
	}
	return matOf(left), met
}

// modelMul is what P3.2 says, of two that fit.
func modelMul(a, b api.Mat) (api.Mat, bool) {
	var list rows
	met, below := false, rowsOf(b)
	for _, row := range rowsOf(a) {
		sums := make([]*big.Int, b.C)
		for k := range sums {
			sums[k] = whole(0)
			for i, n := range row {
				sums[k] = bound(new(big.Int).Add(sums[k], product(n, below[i][k], &met)), &met)
			}
		}
		list = append(list, sums)
	}
	return matOf(list), met
}

// modelScale is what P3.2 says.
func modelScale(a api.Mat, by api.Q) (api.Mat, bool) {
	list, met := rowsOf(a), false
	for _, row := range list {
		for k, n := range row {
			row[k] = product(n, whole(int64(by)), &met)
		}
	}
	return matOf(list), met
}

// modelEven is what P3.2 says, of as many rows as columns.
func modelEven(a api.Mat) api.Mat {
	list, even := rowsOf(a), rowsOf(a)
	for i := range list {
		for k := range list {
			even[i][k] = nearest(new(big.Int).Add(list[i][k], list[k][i]), whole(2))
		}
	}
	return matOf(even)
}

// modelTrans is what P3.1 says.
func modelTrans(a api.Mat) api.Mat {
	list := make(rows, a.C)
	for _, row := range rowsOf(a) {
		for k, n := range row {
			list[k] = append(list[k], n)
		}
	}
	return matOf(list)
}

// of is a matrix of so many rows and columns.
func of(r, c int, l ...api.Q) api.Mat {
	return api.Mat{R: r, C: c, L: l}
}

// equal: the same size, and the same numbers.
func equal(a, b api.Mat) bool {
	return a.R == b.R && a.C == b.C && slices.Equal(a.L, b.L)
}

// nothing: a matrix that is its zero value.
func nothing(a api.Mat) bool {
	return a.R == 0 && a.C == 0 && len(a.L) == 0
}

// kept is a matrix whose numbers nobody else has.
func kept(a api.Mat) api.Mat {
	return of(a.R, a.C, slices.Clone(a.L)...)
}

// mixed is a right matrix; of how many bits its numbers are, at most, is told.
func mixed(source *rand.Rand, r, c, bits int) api.Mat {
	a := of(r, c)
	for range r * c {
		n := api.Q(int64(source.Uint64()) >> (63 - source.Intn(bits+1)))
		if source.Intn(16) == 0 {
			n = []api.Q{0, 1, -1, one, -one, top, low, top - 1, low + 1}[source.Intn(9)]
		}
		a.L = append(a.L, n)
	}
	return a
}

// allSizes goes through the sizes that may be, some times each, with numbers small enough that few leave the bounds, and with such that often do.
func allSizes(do func(source *rand.Rand, r, c, bits int)) {
	source := rand.New(rand.NewSource(3))
	for r := 1; r <= 8; r++ {
		for c := 1; c <= 8; c++ {
			for _, bits := range []int{3, 12, 26, 34, 40, 46} {
				do(source, r, c, bits)
			}
		}
	}
}

// wrong are matrices whose numbers don't lie as R and C say, or of which there are too many.
func wrong() []api.Mat {
	return []api.Mat{
		{}, of(0, 0, 1), of(0, 1), of(1, 0), of(0, 1, 1), of(1, 0, 1), of(1, 1), of(1, 1, 1, 2),
		of(2, 2, 1), of(2, 2, 1, 2, 3), of(2, 2, 1, 2, 3, 4, 5), of(8, 8, make([]api.Q, 63)...), of(8, 8, make([]api.Q, 65)...),
		of(9, 1, make([]api.Q, 9)...), of(1, 9, make([]api.Q, 9)...), of(9, 9, make([]api.Q, 81)...), of(9, 9), of(16, 4, make([]api.Q, 64)...),
		of(-1, -1, 1), of(-1, 1), of(1, -1), of(-2, -2, 1, 2, 3, 4), of(-1, 1, 1), of(1, -1, 1),
		of(math.MaxInt, math.MaxInt, 1), of(math.MinInt, math.MinInt), of(1<<32, 1<<32), of(1<<62, 4), of(4, 1<<62),
		of(math.MinInt, 1, 1), of(1, math.MaxInt, 1), of(-1, math.MinInt),
	}
}
