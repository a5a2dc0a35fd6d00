package nvram_test

import (
	"math/rand"
	"slices"
	"testing"

	"alidade/api"
	"alidade/nvram"
)

// TestWrittenIsRead: P10.3: what is written is read, by the next number.
func TestWrittenIsRead(t *testing.T) {
	check := func(n api.Nv, words []int64) {
		_, number, _ := nvram.Read(n)
		m, e := nvram.Write(n, words)
		if e != api.OK {
			return
		}
		if got, next, is := nvram.Read(m); !is || next != number+1 || !slices.Equal(got, words) {
			t.Errorf("%v, written into %v and read: %v, %d, %t", words, n, got, next, is)
		}
	}
	stores(func(n api.Nv) { check(n, []int64{3, -3}) })
	fewStores(func(n api.Nv) {
		for _, words := range kept() {
			check(n, words)
		}
	})
}

// TestCrash: P10.3: whatever a crash leaves, what is read is what was read before, or, if all was written, what was written.
func TestCrash(t *testing.T) {
	check := func(n api.Nv, words []int64, done int) {
		before, number, was := nvram.Read(n)
		m, e := nvram.Torn(n, words, done)
		if e == api.OK && done >= nvram.Steps(words) {
			before, number, was = words, number+1, true
		}
		if got, next, is := nvram.Read(m); is != was || next != number || !slices.Equal(got, before) {
			t.Errorf("%v, torn into %v at %d: %v, %d, %t", words, n, done, got, next, is)
		}
	}
	stores(func(n api.Nv) {
		for done := -1; done <= 6; done++ {
			check(n, []int64{0, 8}, done)
		}
	})
	fewStores(func(n api.Nv) {
		for _, words := range kept() {
			for _, done := range dones(words) {
				check(n, words, done)
			}
		}
	})
}

// TestManyCrashes: P10.2, P10.3: records and crashes on end, from an empty store and from others: what was written whole last is read, and its number is how many were.
func TestManyCrashes(t *testing.T) {
	source := rand.New(rand.NewSource(5))
	for range 300 {
		n, last, count := api.Nv{}, []int64(nil), int64(0)
		for range 60 {
			words := someRow(source, source.Intn(6))
			done := source.Intn(nvram.Steps(words) + 2)
			want, _ := modelTorn(twin(n), words, done)
			m, e := nvram.Torn(n, words, done)
			if e != api.OK || !modelSame(m, want) {
				t.Fatalf("Torn(%v, %v, %d): %v, %d", n, words, done, m, e)
			}
			if n = m; done >= nvram.Steps(words) {
				last, count = words, count+1
			}
			if got, number, is := nvram.Read(n); number != count || is != (count > 0) || !slices.Equal(got, last) {
				t.Fatalf("%v: %v, %d, %t, not %v, %d", n, got, number, is, last, count)
			}
		}
	}
}

// TestTurns: P10.2: records go to the two slots in turns, each time the other one stays.
func TestTurns(t *testing.T) {
	n := api.Nv{}
	for i := range 20 {
		m, e := nvram.Write(n, []int64{int64(i)})
		if e != api.OK || m.Slots[i%2].Words[0] != int64(i+1) {
			t.Fatalf("the record %d: %v, %d", i+1, m, e)
		}
		if kept := 1 - i%2; m.Slots[kept].Commit != n.Slots[kept].Commit || !slices.Equal(m.Slots[kept].Words, n.Slots[kept].Words) {
			t.Fatalf("the record %d: %v, behind %v", i+1, m, n)
		}
		n = m
	}
}

// TestToTheEnd: P10.2: the last number is written, and no other one behind it.
func TestToTheEnd(t *testing.T) {
	n := api.Nv{Slots: [2]api.Slot{{}, sealed(1<<62-2, 5)}}
	for i, want := range []api.Errno{api.OK, api.OK, api.ErrBig, api.ErrBig} {
		m, e := nvram.Write(n, []int64{int64(i)})
		if e != want || (e == api.OK) == modelSame(m, n) {
			t.Fatalf("%d: %v, %d", i, m, e)
		}
		n = m
	}
	if got, number, is := nvram.Read(n); !is || number != 1<<62 || !slices.Equal(got, []int64{1}) {
		t.Error(got, number, is)
	}
}

// withMore is a list with others behind it in one memory.
func withMore(l []int64) (part, all []int64) {
	all = append(slices.Clone(l), 7, 7, 7, 7)
	return all[:len(l)], all
}

// TestLeft: R3: what is handed in, and what lies behind it, stays as it is.
func TestLeft(t *testing.T) {
	fewStores(func(n api.Nv) {
		for _, words := range kept() {
			a, allA := withMore(n.Slots[0].Words)
			b, allB := withMore(n.Slots[1].Words)
			c, allC := withMore(words)
			m := api.Nv{Slots: [2]api.Slot{{Words: a, Commit: n.Slots[0].Commit}, {Words: b, Commit: n.Slots[1].Commit}}}
			was := [][]int64{slices.Clone(allA), slices.Clone(allB), slices.Clone(allC)}
			nvram.Commit(c)
			nvram.Read(m)
			nvram.Write(m, c)
			nvram.Steps(c)
			nvram.Same(m, m)
			for done := range 7 {
				nvram.Torn(m, c, done)
			}
			if !slices.EqualFunc([][]int64{allA, allB, allC}, was, slices.Equal) || !modelSame(m, n) {
				t.Errorf("%v became %v, %v, %v", was, allA, allB, allC)
			}
		}
	})
}

// spoilt writes over all memory of lists; what two of them share doesn't become again what it was.
func spoilt(lists ...[]int64) {
	for _, l := range lists {
		l = l[:cap(l)]
		for i := range l {
			l[i] += 99
		}
	}
}

// TestNew: R3: what comes out is changed by nobody who has what was handed in, or what else came out.
func TestNew(t *testing.T) {
	alone := func(n api.Nv, words []int64, call func(n api.Nv, words []int64) api.Nv) {
		t.Helper()
		want := twin(call(n, words))
		m, w := twin(n), slices.Clone(words)
		got, other := call(m, w), call(m, w)
		spoilt(m.Slots[0].Words, m.Slots[1].Words, w, other.Slots[0].Words, other.Slots[1].Words)
		if !modelSame(got, want) {
			t.Errorf("of %v and %v became %v, not %v", n, words, got, want)
		}
		spoilt(got.Slots[0].Words)
		if !slices.Equal(got.Slots[1].Words, want.Slots[1].Words) {
			t.Errorf("slots of one memory: %v, not %v", got, want)
		}
	}
	fewStores(func(n api.Nv) {
		for _, words := range kept() {
			alone(n, words, func(n api.Nv, words []int64) api.Nv { m, _ := nvram.Write(n, words); return m })
			for done := range 7 {
				alone(n, words, func(n api.Nv, words []int64) api.Nv { m, _ := nvram.Torn(n, words, done); return m })
			}
		}
		m := twin(n)
		got, _, _ := nvram.Read(m)
		other, _, _ := nvram.Read(m)
		spoilt(m.Slots[0].Words, m.Slots[1].Words, other)
		if want, _, _ := modelRead(n); !slices.Equal(got, want) {
			t.Errorf("Read(%v) became %v", n, got)
		}
	})
}

// TestOneMemory: R3: both slots, and the words, may be of one memory.
func TestOneMemory(t *testing.T) {
	row := []int64{3, 5, 8}
	s := api.Slot{Words: row, Commit: modelCommit(row)}
	n := api.Nv{Slots: [2]api.Slot{s, s}}
	for done := range 8 {
		want, bad := modelTorn(twin(n), slices.Clone(row), done)
		tears(t, n, row, done, want, bad)
	}
	want, bad := modelWrite(twin(n), slices.Clone(row[1:]))
	writes(t, n, row[1:], want, bad)
	if !slices.Equal(row, []int64{3, 5, 8}) {
		t.Error(row)
	}
}

// TestSameAgain: R4: the same is answered to the same arguments, whatever was asked between.
func TestSameAgain(t *testing.T) {
	var last api.Nv
	fewStores(func(n api.Nv) {
		for _, words := range kept()[:10] {
			a, bad := nvram.Write(n, words)
			before, number, is := nvram.Read(last)
			b, e := nvram.Write(n, words)
			after, again, yes := nvram.Read(last)
			if bad != e || !nvram.Same(a, b) || number != again || is != yes || !slices.Equal(before, after) {
				t.Errorf("%v and %v: %v and %v, %v and %v", n, words, a, b, before, after)
			}
			last = a
		}
	})
}
