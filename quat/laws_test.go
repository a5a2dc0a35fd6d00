package quat_test

import (
	"math/rand"
	"testing"

	"alidade/api"
	"alidade/quat"
)

// TestTurnedRoundTwice: P4.3: turned round twice it is as it was, if it is above Low; Low isn't.
func TestTurnedRoundTwice(t *testing.T) {
	check := func(q api.Quat) {
		back := quat.Conj(quat.Conj(q))
		for place, n := range q {
			if above := place == 0 || n > low && n <= top; above && back[place] != n {
				t.Errorf("%v turned round twice: %v", q, back)
			}
		}
	}
	many(func(p, q api.Quat) {
		check(p)
		check(q)
	})
	single(check)
	if back := quat.Conj(quat.Conj(api.Quat{low, low, low, low})); back != (api.Quat{low, -top, -top, -top}) {
		t.Error(back)
	}
}

// within is a number of any length that is at most so far from 0, with either sign.
func within(source *rand.Rand, most api.Q) api.Q {
	n := api.Q(source.Int63n(int64(most)+1)) >> source.Intn(34)
	if source.Intn(2) == 0 {
		return -n
	}
	return n
}

// TestNormOfUnit: P4.3: where all are at most 512, and one at least 1/4, the norm of Unit is 1, but for 256 by 2^24, and no bound is met.
func TestNormOfUnit(t *testing.T) {
	const most, least = 512 * one, one / 4
	check := func(q api.Quat) {
		unit, out := quat.Unit(q)
		norm, over := quat.Norm(unit)
		if out || over || norm < one-256 || norm > one+256 {
			t.Errorf("%v: unit %v, %t, its norm %d, %t", q, unit, out, norm, over)
		}
	}
	ends := []api.Q{0, 1, 2896, 2897, least - 1, least, least + 1, one, most - 1, most}
	for _, a := range []api.Q{least, least + 1, one - 1, one, most - 1, most} {
		for _, b := range ends {
			for _, c := range ends {
				for _, d := range ends {
					check(api.Quat{a, b, -c, d})
					check(api.Quat{b, -a, c, d})
					check(api.Quat{b, c, a, -d})
					check(api.Quat{-b, c, d, -a})
				}
			}
		}
	}
	source := rand.New(rand.NewSource(5))
	for range 40000 {
		var q api.Quat
		for i := range q {
			q[i] = within(source, most)
		}
		if place := source.Intn(4); q[place] > -least && q[place] < least {
			q[place] = least + api.Q(source.Intn(1<<22))
		}
		check(q)
	}
}

// TestToldInBounds: what is told is in bounds, whatever it is told of (but for the real part that Conj leaves as it is).
func TestToldInBounds(t *testing.T) {
	check := func(p, q api.Quat) {
		product, _ := quat.Mul(p, q)
		unit, _ := quat.Unit(p)
		small, _ := quat.Small(last(p), q[0])
		turned, _ := quat.Turn(p, last(q))
		norm, _ := quat.Norm(p)
		back := last(quat.Conj(p))
		for _, four := range []api.Quat{product, unit, small, {norm, turned[0], turned[1], turned[2]}, {0, back[0], back[1], back[2]}} {
			if !quat.Right(four) {
				t.Errorf("of %v and %v: %v", p, q, four)
			}
		}
	}
	many(check)
	single(func(p api.Quat) {
		single(func(q api.Quat) { check(p, q) })
	})
}
