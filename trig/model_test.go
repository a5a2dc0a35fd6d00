package trig_test

import (
	"math"
	"math/big"
	"math/rand"

	"alidade/api"
)

// The model turns whole numbers of any size by fractions that are rounded down by themselves, and reckons the turns anew: nothing of it is shifted, and nothing goes round but what the chapter says.

// modelTurn is the angle whose tangent is 2^-i, of 2^32 to the whole turn.
func modelTurn(i int) int64 {
	return int64(math.Round(math.Atan(math.Pow(2, -float64(i))) / (2 * math.Pi) * (1 << 32)))
}

// floorBy is a number by 2^i, rounded down.
func floorBy(n *big.Int, i int) *big.Int {
	return new(big.Int).Div(n, power(i)) // by what is above 0, Div rounds down
}

func power(i int) *big.Int {
	return new(big.Int).Exp(big.NewInt(2), big.NewInt(int64(i)), nil)
}

// round32 is a whole number as an int32 that goes round.
func round32(n int64) int64 {
	n %= 1 << 32
	if n < -1<<31 {
		n += 1 << 32
	}
	if n >= 1<<31 {
		n -= 1 << 32
	}
	return n
}

// modelTurned is x, y and z after all turns.
func modelTurned(x, y *big.Int, z int64, up func(x, y *big.Int, z int64) bool) (*big.Int, *big.Int, int64) {
	for i := 0; i < 30; i++ {
		byX, byY, t := floorBy(x, i), floorBy(y, i), modelTurn(i)
		if !up(x, y, z) {
			byX.Neg(byX)
			byY.Neg(byY)
			t = -t
		}
		x, y, z = new(big.Int).Sub(x, byY), new(big.Int).Add(y, byX), round32(z-t)
	}
	return x, y, z
}

// sixtyFourth is a number by 64, rounded, of two that are as near to the even one.
func sixtyFourth(n *big.Int) int64 {
	whole, rest := new(big.Int).DivMod(n, big.NewInt(64), new(big.Int))
	if rest.Int64() > 32 || rest.Int64() == 32 && whole.Bit(0) == 1 {
		whole.Add(whole, big.NewInt(1))
	}
	return whole.Int64()
}

// modelSinCos is what P2.2 says.
func modelSinCos(a uint32) (api.Q, api.Q) {
	z, sign := round32(int64(a)), int64(1)
	if z < -1<<30 || z >= 1<<30 {
		z, sign = round32(z+1<<31), -1
	}
	x, y, _ := modelTurned(big.NewInt(652032874), new(big.Int), z, func(_, _ *big.Int, z int64) bool { return z >= 0 })
	return api.Q(sign * sixtyFourth(y)), api.Q(sign * sixtyFourth(x))
}

// modelAtan is what P2.3 says.
func modelAtan(y, x api.Q) uint32 {
	bound := func(n api.Q) *big.Int { return big.NewInt(int64(min(max(n, -1<<46), 1<<46-1))) }
	bigY, bigX, begin := bound(y), bound(x), int64(0)
	if bigY.Sign() == 0 && bigX.Sign() == 0 {
		return 0
	}
	if bigX.Sign() < 0 {
		bigY.Neg(bigY)
		bigX.Neg(bigX)
		begin = 1 << 31
	}
	bigX.Mul(bigX, big.NewInt(4096))
	bigY.Mul(bigY, big.NewInt(4096))
	_, _, z := modelTurned(bigX, bigY, 0, func(_, y *big.Int, _ int64) bool { return y.Sign() < 0 })
	return uint32((begin + z + 1<<32) % (1 << 32))
}

// angles are those at which something changes, their neighbours, and some others.
func angles() []uint32 {
	var list []uint32
	for eighth := uint32(0); eighth < 8; eighth++ {
		for _, by := range []uint32{0, 1, 2, 3, 100, 1 << 16} {
			list = append(list, eighth<<29+by, eighth<<29-by)
		}
	}
	for i := range 30 {
		t := uint32(modelTurn(i))
		list = append(list, t, t+1, t-1, -t, 1<<30+t, 1<<30-t, 3<<30+t, 3<<30-t)
	}
	source := rand.New(rand.NewSource(2))
	for range 4000 {
		list = append(list, source.Uint32())
	}
	return list
}

// numbers are those at which something changes, their neighbours, and those out of bounds.
func numbers() []api.Q {
	var list []api.Q
	for _, at := range []api.Q{0, 5, 1000, 1 << 12, 1 << 24, 3 << 23, 1 << 30, 1 << 36, 1 << 46, 1 << 47, 1 << 62, math.MaxInt64 - 1} {
		list = append(list, at, at-1, at+1, -at, -at-1, -at+1)
	}
	return append(list, math.MinInt64)
}

// mixed are numbers of all sizes, with both signs.
func mixed(count int, seed int64) []api.Q {
	source := rand.New(rand.NewSource(seed))
	list := make([]api.Q, count)
	for i := range list {
		list[i] = api.Q(int64(source.Uint64()) >> source.Intn(64))
	}
	return list
}
