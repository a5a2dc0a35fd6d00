package ring_test

import (
	"math/rand"
	"testing"

	"alidade/api"
	"alidade/ring"
)

// TestCourses: P12.1: whatever is put, in whatever order, the ring has of each slot what is newest.
func TestCourses(t *testing.T) {
	source := rand.New(rand.NewSource(8))
	for range 300 {
		var r api.Ring
		var all []put
		first := []int64{0, 1000, 1<<62 - 70}[source.Intn(3)]
		for range 120 {
			p := put{first + int64(source.Intn(80)) - 2, someSample(source)}
			if source.Intn(10) == 0 {
				p.k = someEdge(source)
			}
			r, all = ring.Put(r, p.k, p.s), append(all, p)
			if want := modelRing(all); r != want || !ring.Right(r) {
				t.Fatalf("behind %v: %v, not %v", p, r, want)
			}
		}
	}
}

// TestFound: P12.3: what was put is found till a place one round, or several ones, further on is put.
func TestFound(t *testing.T) {
	source := rand.New(rand.NewSource(9))
	for range 2000 {
		k := somePlace(source, source.Intn(long))
		s := someSample(source)
		r := ring.Put(someRing(source), k, s)
		if _, is := ring.Get(r, k); !is { // a place further on stands there
			r = ring.Put(api.Ring{}, k, s)
		}
		for range 60 {
			other := k + int64(source.Intn(160)) - 80
			r = ring.Put(r, other, someSample(source))
			got, is := ring.Get(r, k)
			if isPlace(other) && other > k && (other-k)%long == 0 {
				if is || got != (api.Sample{}) || ring.Fill(r, k) != (api.Sample{Missing: true}) {
					t.Fatalf("%d is found behind %d: %v", k, other, got)
				}
				break
			}
			if other == k {
				r = ring.Put(r, k, s)
				continue
			}
			if !is || got != s || ring.Fill(r, k) != s {
				t.Fatalf("%d isn't found behind %d: %v", k, other, r)
			}
		}
	}
}

// TestMergeTurned: P12.3: merged the other way round the places are the same.
func TestMergeTurned(t *testing.T) {
	source := rand.New(rand.NewSource(10))
	for range 5000 {
		a := someRing(source)
		b := alike(source, a)
		if x, y := ring.Merge(a, b), ring.Merge(b, a); x.Places != y.Places {
			t.Errorf("Merge of %v and %v: %v, %v", a, b, x, y)
		}
	}
}

// TestMergeSelf: P12.3: a ring merged with itself, and with an empty one, is it.
func TestMergeSelf(t *testing.T) {
	source := rand.New(rand.NewSource(11))
	for range 5000 {
		r := someRing(source)
		if ring.Merge(r, r) != r || ring.Merge(r, api.Ring{}) != r || ring.Merge(api.Ring{}, r) != r {
			t.Errorf("Merge of %v with itself, or with nothing", r)
		}
	}
}

// TestComesRight: what comes of rings that are right is right.
func TestComesRight(t *testing.T) {
	source := rand.New(rand.NewSource(12))
	for range 5000 {
		a := someRing(source)
		b := alike(source, a)
		if m := ring.Merge(a, b); !ring.Right(m) || ring.Newest(m) != max(ring.Newest(a), ring.Newest(b)) {
			t.Errorf("Merge(%v, %v): %v", a, b, m)
		}
		if k := someEdge(source); !ring.Right(ring.Put(a, k, someSample(source))) {
			t.Errorf("Put(%v, %d)", a, k)
		}
	}
}

// TestLeft: R3: what is handed in stays as it was, and what came out isn't touched by later calls.
func TestLeft(t *testing.T) {
	source := rand.New(rand.NewSource(13))
	for range 1000 {
		a, b := someRing(source), someRing(source)
		first, second := a, b
		k := somePlace(source, source.Intn(long))
		s := of(k)
		put, merged := ring.Put(a, k, s), ring.Merge(a, b)
		onePut, oneMerged := put, merged
		ring.Put(put, k, of(-k))
		ring.Merge(merged, put)
		ring.Get(a, k)
		ring.Fill(b, k)
		ring.Right(a)
		ring.Newest(b)
		if a != first || b != second || s != of(k) || put != onePut || merged != oneMerged {
			t.Fatal("a call wrote into what was handed in, or had come out")
		}
	}
}

// TestSameAgain: R4: the same arguments come to the same, whatever was asked between.
func TestSameAgain(t *testing.T) {
	type answers struct {
		put, merged api.Ring
		got, filled api.Sample
		is, right   bool
		newest      int64
	}
	ask := func(a, b api.Ring, k int64, s api.Sample) answers {
		got, is := ring.Get(a, k)
		return answers{ring.Put(a, k, s), ring.Merge(a, b), got, ring.Fill(b, k), is, ring.Right(a), ring.Newest(b)}
	}
	source := rand.New(rand.NewSource(14))
	for range 1000 {
		a, b, k, s := someRing(source), someRing(source), someEdge(source), someSample(source)
		if source.Intn(2) == 0 {
			k = a.Places[source.Intn(long)]
		}
		first := ask(a, b, k, s)
		ask(oddRing(source), someRing(source), k, someSample(source))
		if ask(a, b, k, s) != first {
			t.Fatalf("another answer of %v, %v, %d", a, b, k)
		}
	}
}
