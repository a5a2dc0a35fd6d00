package nvram_test

import (
	"math/rand"
	"slices"
	"testing"

	"alidade/api"
	"alidade/nvram"
)

// TestCommit: P10.1: numbers that are written out, and rows of all sorts.
func TestCommit(t *testing.T) {
	for _, x := range []struct {
		words []int64
		want  int64
	}{
		{nil, 4294967296},
		{[]int64{}, 4294967296},
		{[]int64{0}, 5991751529},
		{[]int64{-1}, 4853128988},
		{[]int64{1, 5}, 6638185369},
		{[]int64{5, 1}, 7804239500},
		{[]int64{0x3132333435363738}, 6893394607}, // the text 12345678
	} {
		if got := nvram.Commit(x.words); got != x.want || got != modelCommit(x.words) {
			t.Errorf("Commit(%v): %d, not %d, %d", x.words, got, x.want, modelCommit(x.words))
		}
	}
	source := rand.New(rand.NewSource(3))
	for long := range 700 {
		words := someRow(source, long)
		if got, want := nvram.Commit(words), modelCommit(words); got != want || got>>32 != 1 {
			t.Errorf("Commit(%v): %d, not %d", words, got, want)
		}
	}
	for bit := range 64 {
		words := []int64{1 << bit, ^(1 << bit)}
		if got, want := nvram.Commit(words), modelCommit(words); got != want {
			t.Errorf("Commit(%v): %d, not %d", words, got, want)
		}
	}
}

// reads tells where Read doesn't answer what is wanted.
func reads(t *testing.T, n api.Nv, words []int64, number int64, is bool) {
	t.Helper()
	if got, first, yes := nvram.Read(n); !slices.Equal(got, words) || first != number || yes != is {
		t.Errorf("Read(%v): %v, %d, %t, not %v, %d, %t", n, got, first, yes, words, number, is)
	}
}

// TestRead: P10.1, case by case.
func TestRead(t *testing.T) {
	torn := api.Slot{Words: []int64{9, 7}}
	for _, x := range []struct {
		a, b   api.Slot
		words  []int64
		number int64
		is     bool
	}{
		{api.Slot{}, api.Slot{}, nil, 0, false},
		{torn, torn, nil, 0, false},
		{sealed(1, 5), api.Slot{}, []int64{5}, 1, true},
		{api.Slot{}, sealed(1, 5), []int64{5}, 1, true},
		{sealed(1, 5), sealed(2, 6), []int64{6}, 2, true},
		{sealed(3, 5), sealed(2, 6), []int64{5}, 3, true},
		{sealed(2, 5), sealed(2, 6), []int64{5}, 2, true}, // the first one, if both are the same
		{sealed(0, 5), sealed(0, 6), []int64{5}, 0, true},
		{sealed(1<<62, 5), sealed(1<<62, 6), []int64{5}, 1 << 62, true},
		{sealed(1, 5), torn, []int64{5}, 1, true},
		{torn, sealed(1, 5), []int64{5}, 1, true},
		{sealed(0), api.Slot{}, nil, 0, true},
		{sealed(4, 0, 0), sealed(0, 9), []int64{0, 0}, 4, true},
		{sealed(1, 5), sealed(1<<62, 6), []int64{6}, 1 << 62, true},
		{sealed(1, 5), sealed(1<<62+1, 6), []int64{5}, 1, true},
		{sealed(-1, 5), sealed(0, 6), []int64{6}, 0, true},
		{sealed(-1, 5), sealed(1<<62+1, 6), nil, 0, false},
	} {
		reads(t, api.Nv{Slots: [2]api.Slot{x.a, x.b}}, x.words, x.number, x.is)
	}
	stores(func(n api.Nv) {
		words, number, is := modelRead(n)
		reads(t, n, words, number, is)
	})
}

// TestWhole: the chapter's words: each slot of these is whole, or isn't, whatever the other one is.
func TestWhole(t *testing.T) {
	for _, s := range wholeSlots() {
		reads(t, api.Nv{Slots: [2]api.Slot{s, {}}}, s.Words[1:], s.Words[0], true)
		reads(t, api.Nv{Slots: [2]api.Slot{{}, s}}, s.Words[1:], s.Words[0], true)
	}
	for _, s := range brokenSlots() {
		reads(t, api.Nv{Slots: [2]api.Slot{s, s}}, nil, 0, false)
		reads(t, api.Nv{Slots: [2]api.Slot{s, sealed(0, 4)}}, []int64{4}, 0, true)
		reads(t, api.Nv{Slots: [2]api.Slot{sealed(0, 4), s}}, []int64{4}, 0, true)
	}
}

// TestSpoilt: the chapter's words: a slot of which a bit is another one, or a word is gone, or two have changed places, isn't whole.
func TestSpoilt(t *testing.T) {
	s := sealed(3, 5, -6, 0, 1<<62)
	gone := func(words []int64, commit int64) {
		t.Helper()
		reads(t, api.Nv{Slots: [2]api.Slot{{Words: words, Commit: commit}, {}}}, nil, 0, false)
		reads(t, api.Nv{Slots: [2]api.Slot{sealed(2, 2), {Words: words, Commit: commit}}}, []int64{2}, 2, true)
	}
	for bit := range 64 {
		gone(s.Words, s.Commit^1<<bit)
		for i := range s.Words {
			words := slices.Clone(s.Words)
			words[i] ^= 1 << bit
			gone(words, s.Commit)
		}
	}
	for i := range s.Words {
		gone(slices.Delete(slices.Clone(s.Words), i, i+1), s.Commit)
		for j := range i {
			words := slices.Clone(s.Words)
			words[i], words[j] = words[j], words[i]
			gone(words, s.Commit)
		}
	}
	gone(append(slices.Clone(s.Words), 0), s.Commit)
}

// writes tells where Write doesn't answer what is wanted.
func writes(t *testing.T, n api.Nv, words []int64, want api.Nv, bad api.Errno) {
	t.Helper()
	if got, e := nvram.Write(n, words); e != bad || !modelSame(got, want) {
		t.Errorf("Write(%v, %v): %v, %d, not %v, %d", n, words, got, e, want, bad)
	}
}

// TestWrite: P10.2, case by case.
func TestWrite(t *testing.T) {
	torn := api.Slot{Words: []int64{9, 7}}
	for _, x := range []struct{ a, b, c, d api.Slot }{
		{api.Slot{}, api.Slot{}, sealed(1, 5), api.Slot{}},
		{torn, torn, sealed(1, 5), torn},
		{sealed(1, 4), api.Slot{}, sealed(1, 4), sealed(2, 5)},
		{api.Slot{}, sealed(1, 4), sealed(2, 5), sealed(1, 4)},
		{sealed(1, 4), sealed(2, 6), sealed(3, 5), sealed(2, 6)},
		{sealed(3, 4), sealed(2, 6), sealed(3, 4), sealed(4, 5)},
		{sealed(2, 4), sealed(2, 6), sealed(2, 4), sealed(3, 5)},
		{sealed(0, 4), torn, sealed(0, 4), sealed(1, 5)},
		{torn, sealed(8, 4), sealed(9, 5), sealed(8, 4)},
		{sealed(1<<62-1, 4), torn, sealed(1<<62-1, 4), sealed(1<<62, 5)},
		{sealed(1<<62+1, 4), sealed(6, 4), sealed(7, 5), sealed(6, 4)},
		{sealed(-1, 4), sealed(-9, 4), sealed(1, 5), sealed(-9, 4)},
	} {
		n := api.Nv{Slots: [2]api.Slot{x.a, x.b}}
		writes(t, n, []int64{5}, api.Nv{Slots: [2]api.Slot{x.c, x.d}}, api.OK)
	}
	stores(func(n api.Nv) {
		want, bad := modelWrite(n, []int64{-7, 0})
		writes(t, n, []int64{-7, 0}, want, bad)
	})
	fewStores(func(n api.Nv) {
		for _, words := range kept() {
			want, bad := modelWrite(n, words)
			writes(t, n, words, want, bad)
		}
	})
}

// TestBig: P10.2: ErrBig, and the store as it was, of too many words, and of the greatest number; of Torn whatever was written.
func TestBig(t *testing.T) {
	refused := func(n api.Nv, words []int64) {
		t.Helper()
		writes(t, n, words, n, api.ErrBig)
		for _, done := range dones(words) {
			tears(t, n, words, done, n, api.ErrBig)
		}
	}
	most := api.Nv{Slots: [2]api.Slot{sealed(1<<62-1, 4), sealed(1<<62, 6)}}
	turned := api.Nv{Slots: [2]api.Slot{most.Slots[1], most.Slots[0]}}
	for _, words := range kept() {
		refused(most, words)
		refused(turned, words)
	}
	fewStores(func(n api.Nv) {
		refused(n, make([]int64, 601))
		refused(n, make([]int64, 5000))
	})
	for long := 598; long <= 600; long++ {
		n, e := nvram.Write(api.Nv{}, make([]int64, long))
		if e != api.OK || len(n.Slots[0].Words) != long+1 {
			t.Errorf("Write of %d words: %d", long, e)
		}
	}
}

// TestSteps: P10.2.
func TestSteps(t *testing.T) {
	if nvram.Steps(nil) != 3 || nvram.Steps([]int64{5}) != 4 {
		t.Error(nvram.Steps(nil), nvram.Steps([]int64{5}))
	}
	for _, long := range []int{0, 1, 2, 10, 599, 600, 601, 1000, 1 << 16} {
		if got := nvram.Steps(make([]int64, long)); got != long+3 {
			t.Errorf("Steps of %d words: %d", long, got)
		}
	}
}

// tears tells where Torn doesn't answer what is wanted.
func tears(t *testing.T, n api.Nv, words []int64, done int, want api.Nv, bad api.Errno) {
	t.Helper()
	if got, e := nvram.Torn(n, words, done); e != bad || !modelSame(got, want) {
		t.Errorf("Torn(%v, %v, %d): %v, %d, not %v, %d", n, words, done, got, e, want, bad)
	}
}

// TestTorn: P10.2, word by word.
func TestTorn(t *testing.T) {
	old := api.Nv{Slots: [2]api.Slot{sealed(1, 2, 3, 4), sealed(2, 6)}}
	for done, want := range map[int]api.Slot{
		-1: old.Slots[0],
		0:  old.Slots[0],
		1:  {Words: []int64{1, 2, 3, 4}},
		2:  {Words: []int64{3}},
		3:  {Words: []int64{3, 8}},
		4:  {Words: []int64{3, 8, 9}},
		5:  sealed(3, 8, 9),
		6:  sealed(3, 8, 9),
	} {
		tears(t, old, []int64{8, 9}, done, api.Nv{Slots: [2]api.Slot{want, old.Slots[1]}}, api.OK)
	}
	for done, want := range []api.Slot{{}, {}, {Words: []int64{1}}, sealed(1)} {
		tears(t, api.Nv{}, nil, done, api.Nv{Slots: [2]api.Slot{want, {}}}, api.OK)
	}
	fewStores(func(n api.Nv) {
		for _, words := range kept() {
			for _, done := range dones(words) {
				want, bad := modelTorn(n, words, done)
				tears(t, n, words, done, want, bad)
			}
		}
	})
}

// TestTornAll: P10.2: each count of a longest record, upon one that was as long.
func TestTornAll(t *testing.T) {
	source := rand.New(rand.NewSource(4))
	n := api.Nv{Slots: [2]api.Slot{sealed(7, 1), sealed(append([]int64{6}, someRow(source, 600)...)...)}}
	words := someRow(source, 600)
	for done := -2; done <= 605; done++ {
		want, bad := modelTorn(n, words, done)
		tears(t, n, words, done, want, bad)
	}
}

// TestSame: by whether all words and Commits are the same; nil or empty doesn't count.
func TestSame(t *testing.T) {
	var list []api.Nv
	fewStores(func(n api.Nv) { list = append(list, n) })
	for i, a := range list {
		for j, b := range list {
			if got := nvram.Same(a, twin(b)); got != (i == j) || got != modelSame(a, b) {
				t.Errorf("Same(%v, %v): %t", a, b, got)
			}
		}
	}
	none := api.Nv{Slots: [2]api.Slot{{Words: []int64{}}, {Words: []int64{}}}}
	if !nvram.Same(api.Nv{}, none) || !nvram.Same(none, api.Nv{}) {
		t.Error("nil and empty")
	}
}

// TestSameOther: a word, a Commit, or a length that is another one, in one slot, is seen.
func TestSameOther(t *testing.T) {
	n := api.Nv{Slots: [2]api.Slot{sealed(1, 2, 3), sealed(2, 3, 4)}}
	other := func(change func(s *api.Slot)) {
		t.Helper()
		for i := range 2 {
			m := twin(n)
			change(&m.Slots[i])
			if nvram.Same(n, m) || nvram.Same(m, n) || !nvram.Same(m, m) {
				t.Errorf("Same of %v and %v", n, m)
			}
		}
	}
	for bit := range 64 {
		other(func(s *api.Slot) { s.Commit ^= 1 << bit })
		for i := range 3 {
			other(func(s *api.Slot) { s.Words[i] ^= 1 << bit })
		}
	}
	other(func(s *api.Slot) { s.Words = s.Words[:2] })
	other(func(s *api.Slot) { s.Words = s.Words[1:] })
	other(func(s *api.Slot) { s.Words = append(s.Words, 0) })
	other(func(s *api.Slot) { s.Words = nil })
}
