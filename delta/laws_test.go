package delta_test

import (
	"math/rand"
	"slices"
	"testing"

	"alidade/api"
	"alidade/delta"
)

// TestThereAndBack: P9.3: what was told is the same.
func TestThereAndBack(t *testing.T) {
	rows(func(_ *rand.Rand, base, now []int64) {
		d, bad := delta.Diff(base, now)
		if got, e := delta.Apply(base, d); bad != api.OK || e != api.OK || !slices.Equal(got, now) {
			t.Errorf("%v, told by %v and back: %v, %d, %d", now, base, got, bad, e)
		}
		got, e := delta.Join(delta.Parts(d), len(d))
		if e != api.OK || !slices.Equal(got, d) || len(delta.Parts(d)) != delta.Many(len(d)) {
			t.Errorf("%v, in parts and back: %v, %d", d, got, e)
		}
	})
}

// TestSameRow: P9.3: of the same row a mask of 0 alone.
func TestSameRow(t *testing.T) {
	source := rand.New(rand.NewSource(7))
	for n := range 601 {
		row := someRow(source, n)
		d, e := delta.Diff(row, slices.Clone(row))
		if e != api.OK || !slices.Equal(d, make([]int64, masks(n))) {
			t.Errorf("Diff of %v and the same: %v, %d", row, d, e)
		}
		if got, e := delta.Apply(row, make([]int64, masks(n))); e != api.OK || !slices.Equal(got, row) {
			t.Errorf("Apply of %v and noughts: %v, %d", row, got, e)
		}
	}
}

// TestDeltaBack: P9.1, P9.3: a row has one delta to a base: each one that tells it is that one.
func TestDeltaBack(t *testing.T) {
	source := rand.New(rand.NewSource(8))
	told := 0
	for range 20000 {
		base := []int64{source.Int63n(3), source.Int63n(3), source.Int63n(3)}
		d := []int64{source.Int63n(9)}
		for range source.Intn(5) {
			d = append(d, source.Int63n(4))
		}
		row, e := delta.Apply(base, d)
		if e != api.OK {
			continue
		}
		told++
		if again, e := delta.Diff(base, row); e != api.OK || !slices.Equal(again, d) {
			t.Errorf("%v, by %v as a row and back: %v, %d", d, base, again, e)
		}
	}
	if told < 1000 {
		t.Error("deltas that tell a row:", told)
	}
}

// TestOneRow: P9.3: deltas to a base are the same if, and only if, their rows are.
func TestOneRow(t *testing.T) {
	var list [][]int64
	for i := range 81 {
		n := int64(i)
		list = append(list, []int64{n % 3, n / 3 % 3, n / 9 % 3, n / 27})
	}
	for _, base := range list {
		for i, a := range list {
			for j, b := range list {
				c, _ := delta.Diff(base, a)
				d, _ := delta.Diff(base, b)
				if slices.Equal(c, d) != (i == j) {
					t.Errorf("to %v, %v is told by %v, %v by %v", base, a, c, b, d)
				}
			}
		}
	}
}

// withMore is a list with others behind it in one memory.
func withMore[T any](l []T, more T) (part, all []T) {
	all = append(slices.Clone(l), more, more, more)
	return all[:len(l)], all
}

// TestLeft: R3: what is handed in, and what lies behind it, stays as it is.
func TestLeft(t *testing.T) {
	rows(func(_ *rand.Rand, base, now []int64) {
		for _, d := range [][]int64{modelDiff(base, now), nil, now} {
			a, allBase := withMore(base, 7)
			b, allNow := withMore(now, 7)
			c, allD := withMore(d, 7)
			parts, allParts := withMore(modelParts(d), [8]int64{7})
			was := [][]int64{slices.Clone(allBase), slices.Clone(allNow), slices.Clone(allD)}
			wasParts := slices.Clone(allParts)
			delta.Diff(a, b)
			delta.Apply(a, c)
			delta.Parts(c)
			delta.Join(parts, len(d))
			delta.Join(parts, len(d)+1)
			if !slices.EqualFunc([][]int64{allBase, allNow, allD}, was, slices.Equal) || !slices.Equal(allParts, wasParts) {
				t.Errorf("%v and %v became %v, %v, %v, %v", was, wasParts, allBase, allNow, allD, allParts)
			}
		}
	})
}

// spoilt writes over all memory of a list.
func spoilt(l []int64) {
	l = l[:cap(l)]
	for i := range l {
		l[i] ^= 99
	}
}

// TestNew: R3: what comes out is changed by nobody who has what was handed in, or what else came out.
func TestNew(t *testing.T) {
	rows(func(_ *rand.Rand, base, now []int64) {
		a, b, d := slices.Clone(base), slices.Clone(now), modelDiff(base, now)
		parts := modelParts(d)
		diff, _ := delta.Diff(a, b)
		row, _ := delta.Apply(a, d)
		cut := delta.Parts(d)
		joined, _ := delta.Join(parts, len(d))
		other, _ := delta.Join(parts, len(d))
		for _, l := range [][]int64{a, b, d, other} {
			spoilt(l)
		}
		for i := range parts {
			parts[i][0] ^= 99
		}
		want := modelDiff(base, now)
		if !slices.Equal(diff, want) || !slices.Equal(row, now) || !slices.Equal(cut, modelParts(want)) || !slices.Equal(joined, want) {
			t.Errorf("of %v and %v became %v, %v, %v, %v", base, now, diff, row, cut, joined)
		}
		for _, l := range [][]int64{diff, row, joined} {
			spoilt(l)
		}
		if !slices.Equal(cut, modelParts(want)) {
			t.Errorf("parts of %v became %v", want, cut)
		}
	})
}

// TestSameAgain: R4: the same is answered to the same arguments, whatever was asked between.
func TestSameAgain(t *testing.T) {
	lastBase, lastD := []int64{}, []int64{}
	rows(func(_ *rand.Rand, base, now []int64) {
		d, bad := delta.Diff(base, now)
		before, e := delta.Apply(lastBase, lastD)
		delta.Apply(now, d)
		again, f := delta.Diff(base, now)
		after, g := delta.Apply(lastBase, lastD)
		if bad != f || e != g || !slices.Equal(d, again) || !slices.Equal(before, after) {
			t.Errorf("%v and %v: %v and %v, %v and %v", base, now, d, again, before, after)
		}
		lastBase, lastD = base, d
	})
}
