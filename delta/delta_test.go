package delta_test

import (
	"math"
	"math/rand"
	"slices"
	"testing"

	"alidade/api"
	"alidade/delta"
)

// TestDiff: P9.1, the chapter's example and others, word by word.
func TestDiff(t *testing.T) {
	row := func(n int, at ...int) []int64 {
		l := make([]int64, n)
		for _, i := range at {
			l[i] = int64(i) + 1
		}
		return l
	}
	for _, x := range []struct{ base, now, want []int64 }{
		{[]int64{5, 6, 7}, []int64{5, 9, 7}, []int64{2, 9}},
		{[]int64{5, 6, 7}, []int64{5, 6, 7}, []int64{0}},
		{[]int64{5, 6, 7}, []int64{6, 7, 5}, []int64{7, 6, 7, 5}},
		{nil, nil, nil},
		{[]int64{}, nil, nil},
		{[]int64{1}, []int64{0}, []int64{1, 0}},
		{[]int64{0}, []int64{math.MinInt64}, []int64{1, math.MinInt64}},
		{row(60), row(60, 59), []int64{1 << 59, 60}},
		{row(61), row(61, 60), []int64{0, 1, 61}},
		{row(61), row(61), []int64{0, 0}},
		{row(61), row(61, 0, 59, 60), []int64{1<<59 + 1, 1, 1, 60, 61}},
		{row(600), row(600), make([]int64, 10)},
		{row(600), row(600, 599), []int64{0, 0, 0, 0, 0, 0, 0, 0, 0, 1 << 59, 600}},
		{row(541), row(541, 540), []int64{0, 0, 0, 0, 0, 0, 0, 0, 0, 1, 541}},
	} {
		if got, e := delta.Diff(x.base, x.now); e != api.OK || !slices.Equal(got, x.want) {
			t.Errorf("Diff(%v, %v): %v, %d, not %v", x.base, x.now, got, e, x.want)
		}
	}
	rows(func(_ *rand.Rand, base, now []int64) {
		if got, e := delta.Diff(base, now); e != api.OK || !slices.Equal(got, modelDiff(base, now)) {
			t.Errorf("Diff(%v, %v): %v, %d, not %v", base, now, got, e, modelDiff(base, now))
		}
	})
}

// TestDiffWrong: P9.1: ErrSize first, then ErrBig, and nothing beside.
func TestDiffWrong(t *testing.T) {
	source := rand.New(rand.NewSource(1))
	every := append(slices.Clone(longs), 601, 602, 660, 661, 1200, 1<<16)
	for _, n := range every {
		for _, m := range every {
			want := api.OK
			if n > 600 {
				want = api.ErrBig
			}
			if n != m {
				want = api.ErrSize
			}
			got, e := delta.Diff(someRow(source, n), someRow(source, m))
			if e != want || e != api.OK && len(got) != 0 {
				t.Errorf("Diff of %d and %d words: %d words, %d, not %d", n, m, len(got), e, want)
			}
		}
		if got, e := delta.Diff(make([]int64, n), make([]int64, n)); n > 600 && (e != api.ErrBig || len(got) != 0) {
			t.Errorf("Diff of %d words that are the same: %d words, %d", n, len(got), e)
		}
	}
}

// applies tells where Apply doesn't answer what the model does, and tells the error.
func applies(t *testing.T, base, d []int64) api.Errno {
	t.Helper()
	want, bad := modelApply(base, d)
	if got, e := delta.Apply(base, d); e != bad || !slices.Equal(got, want) {
		t.Errorf("Apply(%v, %v): %v, %d, not %v, %d", base, d, got, e, want, bad)
	}
	return bad
}

// TestApply: P9.1: the row whose delta it is.
func TestApply(t *testing.T) {
	for _, x := range []struct{ base, d, want []int64 }{
		{[]int64{5, 6, 7}, []int64{2, 9}, []int64{5, 9, 7}},
		{[]int64{5, 6, 7}, []int64{0}, []int64{5, 6, 7}},
		{[]int64{5, 6, 7}, []int64{5, 1, 2}, []int64{1, 6, 2}},
		{nil, nil, nil},
		{make([]int64, 2), []int64{2, 1}, []int64{0, 1}},
	} {
		if got, e := delta.Apply(x.base, x.d); e != api.OK || !slices.Equal(got, x.want) {
			t.Errorf("Apply(%v, %v): %v, %d, not %v", x.base, x.d, got, e, x.want)
		}
	}
	rows(func(_ *rand.Rand, base, now []int64) {
		if applies(t, base, modelDiff(base, now)) != api.OK {
			t.Errorf("the model: %v and %v", base, now)
		}
	})
}

// TestApplyAll: P9.1: small bases, and all deltas of some words.
func TestApplyAll(t *testing.T) {
	words := []int64{0, 1, 2, 3, 4, 7, 8, -1, 1 << 59, 1 << 60, 1<<60 + 1, math.MinInt64, math.MinInt64 + 1}
	count := map[api.Errno]int{}
	for _, base := range [][]int64{nil, {0}, {1}, {2, 0}, {0, 0}, {1, 2, 3}} {
		var longer func(d []int64)
		longer = func(d []int64) {
			count[applies(t, base, d)]++
			if len(d) == 4 {
				return
			}
			for _, word := range words {
				longer(append(slices.Clone(d), word))
			}
		}
		longer(nil)
	}
	if count[api.OK] < 100 || count[api.ErrForm] < 1000 || count[api.ErrMore] != 5 || len(count) != 3 {
		t.Error("errors, and how often:", count)
	}
}

// refused tells where Apply doesn't answer so, and nothing else.
func refused(t *testing.T, base, d []int64, want api.Errno) {
	t.Helper()
	if got, e := delta.Apply(base, d); e != want || len(got) != 0 {
		t.Errorf("Apply(%v, %v): %v, %d, not %d", base, d, got, e, want)
	}
}

// TestApplyBig: P9.1: ErrBig first, whatever the delta.
func TestApplyBig(t *testing.T) {
	for _, n := range []int{601, 602, 660, 661, 1200, 1 << 16} {
		base := make([]int64, n)
		for _, d := range [][]int64{nil, {0}, {-1}, make([]int64, 10), make([]int64, masks(n)), make([]int64, masks(n)+1)} {
			refused(t, base, d, api.ErrBig)
		}
	}
}

// TestApplyShort: P9.1: ErrMore ahead of ErrForm, if there is no whole mask.
func TestApplyShort(t *testing.T) {
	for _, n := range longs {
		for long := range masks(n) {
			refused(t, make([]int64, n), make([]int64, long), api.ErrMore)
			refused(t, make([]int64, n), slices.Repeat([]int64{-1}, long), api.ErrMore)
		}
	}
}

// TestApplyBits: P9.1: each bit of a mask turned round, with as many words behind as there were, one more, and one less.
func TestApplyBits(t *testing.T) {
	source := rand.New(rand.NewSource(2))
	for _, n := range longs {
		base := someRow(source, n)
		d := modelDiff(base, changed(source, base, 3))
		for j := range masks(n) {
			for bit := range 64 {
				other := slices.Clone(d)
				other[j] ^= 1 << bit
				applies(t, base, other)
				applies(t, base, append(other, someWord(source)))
				if len(other) > masks(n) {
					applies(t, base, other[:len(other)-1])
				}
				if bit >= 60 || 60*j+bit >= n {
					refused(t, base, other, api.ErrForm)
					refused(t, base, append(other, 5), api.ErrForm)
				}
			}
		}
	}
}

// TestApplyCount: P9.1: a word too few, or too many.
func TestApplyCount(t *testing.T) {
	rows(func(source *rand.Rand, base, now []int64) {
		d := modelDiff(base, now)
		refused(t, base, append(slices.Clone(d), someWord(source)), api.ErrForm)
		refused(t, base, append(slices.Clone(d), make([]int64, 700)...), api.ErrForm)
		if len(d) > masks(len(base)) {
			refused(t, base, d[:len(d)-1], api.ErrForm)
			refused(t, base, d[:masks(len(base))], api.ErrForm)
		}
	})
}

// TestApplySame: P9.1: each word that is told, told the same.
func TestApplySame(t *testing.T) {
	source := rand.New(rand.NewSource(3))
	for _, n := range longs {
		base := someRow(source, n)
		d := modelDiff(base, changed(source, base, 2))
		list := places(d[:masks(n)], n)
		for i, place := range list {
			other := slices.Clone(d)
			other[masks(n)+i] = base[place]
			refused(t, base, other, api.ErrForm)
		}
	}
}

// TestParts: P9.2.
func TestParts(t *testing.T) {
	got := delta.Parts([]int64{1, 2, 3, 4, 5, 6, 7, 8, 9})
	if want := [][8]int64{{1, 2, 3, 4, 5, 6, 7, 8}, {9}}; !slices.Equal(got, want) {
		t.Errorf("Parts of 1 to 9: %v", got)
	}
	source := rand.New(rand.NewSource(4))
	check := func(n int) {
		l := someRow(source, n)
		if got := delta.Parts(l); !slices.Equal(got, modelParts(l)) {
			t.Errorf("Parts(%v): %v", l, got)
		}
	}
	for n := range 100 {
		check(n)
	}
	for _, n := range []int{599, 600, 601, 608, 609, 10000, 1 << 16} {
		check(n)
	}
	if got := delta.Parts(nil); len(got) != 0 {
		t.Errorf("Parts of nothing: %v", got)
	}
}

// TestMany: P9.2.
func TestMany(t *testing.T) {
	for _, x := range [][2]int{{0, 0}, {-1, 0}, {-7, 0}, {-8, 0}, {-9, 0}, {math.MinInt, 0}, {math.MinInt + 1, 0}, {1, 1}, {7, 1}, {8, 1}, {9, 2}, {16, 2}, {17, 3}, {600, 75}, {601, 76}, {math.MaxInt, 1 << 60}, {math.MaxInt - 6, 1 << 60}, {math.MaxInt - 7, 1<<60 - 1}} {
		if got := delta.Many(x[0]); got != x[1] {
			t.Errorf("Many(%d): %d, not %d", x[0], got, x[1])
		}
	}
	for n := range 2000 {
		if got := delta.Many(n); got != len(modelParts(make([]int64, n))) {
			t.Errorf("Many(%d): %d", n, got)
		}
	}
}

// unjoined tells where Join doesn't answer ErrSize, and nothing.
func unjoined(t *testing.T, parts [][8]int64, n int) {
	t.Helper()
	if got, e := delta.Join(parts, n); e != api.ErrSize || len(got) != 0 {
		t.Errorf("Join(%v, %d): %v, %d", parts, n, got, e)
	}
}

// TestJoin: P9.2: the first n words.
func TestJoin(t *testing.T) {
	source := rand.New(rand.NewSource(5))
	for _, n := range append(slices.Clone(longs), 4, 5, 6, 15, 16, 17, 601, 608, 1<<16) {
		l := someRow(source, n)
		if got, e := delta.Join(modelParts(l), n); e != api.OK || !slices.Equal(got, l) {
			t.Errorf("Join of %v: %v, %d", l, got, e)
		}
	}
	if got, e := delta.Join(make([][8]int64, 2), 9); e != api.OK || !slices.Equal(got, make([]int64, 9)) {
		t.Errorf("Join of noughts: %v, %d", got, e)
	}
}

// TestJoinCount: P9.2: n below 0, or not just Many of n parts.
func TestJoinCount(t *testing.T) {
	for count := range 20 {
		parts := make([][8]int64, count)
		for n := -20; n < 200; n++ {
			if n < 0 || count != len(modelParts(make([]int64, n))) {
				unjoined(t, parts, n)
			} else if got, e := delta.Join(parts, n); e != api.OK || len(got) != n {
				t.Errorf("Join of %d parts, %d: %v, %d", count, n, got, e)
			}
		}
		for _, n := range []int{math.MinInt, math.MinInt + 8*count, -8 * count, 1 << 32, 1<<32 + 8*count, 1<<61 + 8*count, 1 << 62, math.MaxInt - 7, math.MaxInt - 6, math.MaxInt} {
			if n != 0 {
				unjoined(t, parts, n)
			}
		}
	}
}

// TestJoinBehind: P9.2: each word behind, if it isn't 0.
func TestJoinBehind(t *testing.T) {
	source := rand.New(rand.NewSource(6))
	for n := 1; n < 40; n++ {
		for at := n; at%8 != 0; at++ {
			for _, word := range []int64{1, -1, 1 << 32, math.MinInt64} {
				parts := modelParts(someRow(source, n))
				parts[at/8][at%8] = word
				unjoined(t, parts, n)
			}
		}
	}
}
