package kalman_test

import (
	"math"
	"math/rand"
	"testing"

	"alidade/api"
	"alidade/kalman"
)

// TestToldRight: P5.5: what comes out is right, however often it is told on and held against something, in bounds and at them.
func TestToldRight(t *testing.T) {
	allTracks(func(source *rand.Rand, a api.Track, bits int) {
		n := a.X.R
		for range 6 {
			next, _, e := kalman.Predict(a, mixed(source, n, n, bits), mixed(source, n, n, bits))
			if e != api.OK || !rightTrack(next) || !kalman.Right(next) {
				t.Fatalf("told on: %v, %d", next, e)
			}
			a = next
			next, _, _, e = kalman.Update(a, mixed(source, 1, n, bits), mixedNumber(source, bits), vary(source, bits), top)
			if e != api.OK || !rightTrack(next) || !kalman.Right(next) {
				t.Fatalf("held against a number: %v, %d", next, e)
			}
			a = next
		}
	})
}

// TestNotTakenStays: P5.5: what isn't taken stays, at any bound.
func TestNotTakenStays(t *testing.T) {
	var taken tally
	allTracks(func(source *rand.Rand, a api.Track, bits int) {
		got, was, _, e := kalman.Update(a, mixed(source, 1, a.X.R, bits), mixedNumber(source, bits), vary(source, bits), mixedNumber(source, 46))
		taken.add(was)
		if e != api.OK || !was && !kalman.Same(a, got) {
			t.Errorf("%v, not taken: %v, %d", a, got, e)
		}
	})
	taken.check(t, "taken")
}

// TestDrawnNear: of a number that is measured again and again a track comes nearer to it, and varies less each time, though never below 0.
func TestDrawnNear(t *testing.T) {
	a, _ := kalman.New([]api.Q{0, 0}, []api.Q{100 * one, one})
	for range 50 {
		next, taken, out, e := kalman.Update(a, row(one, 0), 7*one, one, 100*one)
		if e != api.OK || !taken || out || next.X.L[0] < a.X.L[0] || next.X.L[0] > 7*one || next.P.L[0] >= a.P.L[0] || next.P.L[0] < 0 {
			t.Fatalf("%v, then %v, %t, %t, %d", a, next, taken, out, e)
		}
		if next.X.L[1] != 0 || next.P.L[3] != one {
			t.Fatalf("what isn't measured was changed: %v", next)
		}
		a = next
	}
	if off := 7*one - a.X.L[0]; off > one/100 || a.P.L[0] > one/49 {
		t.Errorf("still far: %v", a)
	}
}

// spoilt writes over a track's numbers.
func spoilt(t api.Track) {
	for i := range t.X.L {
		t.X.L[i] = 99
	}
	for i := range t.P.L {
		t.P.L[i] = 98
	}
}

// TestMemory: what is handed in stays as it was, and what comes out is another one's memory.
func TestMemory(t *testing.T) {
	allTracks(func(source *rand.Rand, a api.Track, bits int) {
		n := a.X.R
		f, q, h := mixed(source, n, n, bits), mixed(source, n, n, bits), mixed(source, 1, n, bits)
		was, wasF, wasQ, wasH := kept(a), keptMat(f), keptMat(q), keptMat(h)
		told, _, _ := kalman.Predict(a, f, q)
		taken, _, _, _ := kalman.Update(a, h, a.X.L[0], one, top)
		left, _, _, _ := kalman.Update(a, h, top, one, -1)
		good := api.Track{P: kalman.Good(a.P)}
		uneven := api.Track{P: kalman.Good(q)}
		for _, out := range []api.Track{told, taken, left, good, uneven} {
			spoilt(out)
		}
		if !equal(a, was) || !equalMat(f, wasF) || !equalMat(q, wasQ) || !equalMat(h, wasH) {
			t.Fatalf("changed: %v, %v, %v, %v", a, f, q, h)
		}
	})
	x, vary := []api.Q{1, 2, 3}, []api.Q{4, 5, 6}
	a, _ := kalman.New(x, vary)
	spoilt(a)
	b, _ := kalman.New(x, vary)
	if !equal(b, track([]api.Q{1, 2, 3}, 4, 0, 0, 0, 5, 0, 0, 0, 6)) {
		t.Error("changed:", b)
	}
	x[0], vary[0] = 9, 9
	if !equal(b, track([]api.Q{1, 2, 3}, 4, 0, 0, 0, 5, 0, 0, 0, 6)) {
		t.Error("changed by a list that was handed in:", b)
	}
}

// TestSameAgain: the same is answered to the same arguments.
func TestSameAgain(t *testing.T) {
	allTracks(func(source *rand.Rand, a api.Track, bits int) {
		h, z := mixed(source, 1, a.X.R, bits), mixedNumber(source, bits)
		first, taken, out, _ := kalman.Update(a, h, z, one, 9*one)
		second, again, over, _ := kalman.Update(a, h, z, one, 9*one)
		if !equal(first, second) || taken != again || out != over {
			t.Errorf("%v and %v, %t and %t, %t and %t", first, second, taken, again, out, over)
		}
	})
}

// laid: whether each row and column of a matrix has its number.
func laid(a api.Mat) bool {
	return a.R >= 1 && a.R <= 8 && a.C >= 1 && a.C <= 8 && len(a.L) == a.R*a.C
}

// TestWrong: no call goes wrong at tracks and matrices that aren't right; what can't be read is an error, and beside that there is nothing.
func TestWrong(t *testing.T) {
	check := func(call string, a api.Track, m api.Mat, e api.Errno, empty bool) {
		read := laid(a.X) && laid(a.P) && laid(m)
		if e == api.OK && !read || e != api.OK && !empty {
			t.Errorf("%s of %v and %v: %d, nothing: %t", call, a, m, e, empty)
		}
	}
	all := append(wrongMats(), otherMats()...)
	all = append(all, row(beyond()[:2]...), column(beyond()[:2]...), square(2, math.MaxInt64, math.MinInt64, top+1, low-1))
	for _, x := range all {
		if got := kalman.Good(x); (x.R != x.C || !laid(x)) && !equalMat(got, api.Mat{}) {
			t.Errorf("Good(%v): %v", x, got)
		}
		for _, p := range all {
			a := api.Track{X: x, P: p}
			kalman.Right(a)
			kalman.Same(a, a)
			for _, m := range all {
				got, out, e := kalman.Predict(a, m, p)
				check("Predict", a, m, e, nothing(got) && !out)
				got, out, e = kalman.Predict(a, p, m)
				check("Predict", a, m, e, nothing(got) && !out)
				y, s, out, e := kalman.Innov(a, m, 0, 1)
				check("Innov", a, m, e, y == 0 && s == 0 && !out)
				for _, gate := range []api.Q{top, low} {
					got, taken, out, e := kalman.Update(a, m, 0, 1, gate)
					check("Update", a, m, e, nothing(got) && !taken && !out)
				}
			}
		}
	}
}
