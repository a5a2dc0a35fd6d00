package qfix

import (
	"math/big"
	"testing"

	"alidade/api"
)

func inBounds(n api.Q) bool { return low <= n && n <= top }

// P1.3: what is told is in bounds.
func TestToldInBounds(t *testing.T) {
	calls := []func(a, b api.Q) (api.Q, bool){Add, Sub, Mul, Div}
	pairs(func(a, b api.Q) {
		for i, do := range calls {
			if n, _ := do(a, b); !inBounds(n) {
				t.Errorf("call %d of %d and %d: %d", i, a, b, n)
			}
		}
	})
	singles(func(n int64) {
		clamped, _ := Clamp(api.Q(n))
		root, _ := Sqrt(api.Q(n))
		number, _ := Of(n)
		if !inBounds(clamped) || !inBounds(root) || !inBounds(number) || !inBounds(api.Q(Round(api.Q(n)))) {
			t.Errorf("%d: %d, %d, %d, %d", n, clamped, root, number, Round(api.Q(n)))
		}
	})
}

// P1.3: sums and products hang on no order.
func TestNoOrder(t *testing.T) {
	pairs(func(a, b api.Q) {
		for _, do := range []func(a, b api.Q) (api.Q, bool){Add, Mul} {
			n, out := do(a, b)
			if m, met := do(b, a); n != m || out != met {
				t.Errorf("%d, %d: %d %t, the other way round %d %t", a, b, n, out, m, met)
			}
		}
	})
}

// P1.3: sums and products rise with each operand that rises.
func TestRising(t *testing.T) {
	others := []api.Q{lest, low, -one, -half - 1, -1, 0, 1, 3, half - 1, half, one, one + 1, 5 * half, 1 << 35, top, most}
	pairs(func(a, b api.Q) {
		less, more := min(a, b), max(a, b)
		for _, c := range others {
			first, _ := Add(less, c)
			if second, _ := Add(more, c); first > second {
				t.Errorf("Add of %d and %d, with %d: %d, %d", less, more, c, first, second)
			}
			if c < 0 {
				continue
			}
			first, _ = Mul(less, c)
			if second, _ := Mul(more, c); first > second {
				t.Errorf("Mul of %d and %d, with %d: %d, %d", less, more, c, first, second)
			}
		}
	})
}

// P1.3: a square root's square is the number, but for less than the next one's.
func TestRootsSquare(t *testing.T) {
	square := func(n api.Q) *big.Int { return new(big.Int).Mul(whole(int64(n)), whole(int64(n))) }
	singles(func(n int64) {
		a := api.Q(n)
		if a < 0 || !inBounds(a) {
			return
		}
		root, _ := Sqrt(a)
		number := new(big.Int).Mul(whole(n), whole(1<<24))
		if square(root).Cmp(number) > 0 || square(root+1).Cmp(number) <= 0 {
			t.Errorf("Sqrt(%d): %d", a, root)
		}
	})
}
