package ring_test

import (
	"math"
	"math/rand"
	"testing"

	"alidade/api"
	"alidade/ring"
)

// of is a sample that is known by a number.
func of(n int64) api.Sample {
	return api.Sample{HasBaro: true, Baro: api.Q(n)}
}

// TestPut: P12.1: in its slot, where no greater place stands; else the ring as it was.
func TestPut(t *testing.T) {
	source := rand.New(rand.NewSource(1))
	for range 500 {
		r := someRing(source)
		for _, k := range places(r) {
			s := someSample(source)
			if got := ring.Put(r, k, s); got != modelRing(append(puts(r), put{k, s})) {
				t.Fatalf("Put(%v, %d, %v): %v", r, k, s, got)
			}
		}
	}
}

// TestPutAlone: P12.1, place by place: which slot, and that nothing else is touched.
func TestPutAlone(t *testing.T) {
	slots := map[int64]int{1: 0, 2: 1, 3: 2, 15: 14, 16: 15, 17: 0, 18: 1, 32: 15, 33: 0, 1<<62 - 15: 0, 1<<62 - 1: 14, 1 << 62: 15}
	for k, slot := range slots {
		var want api.Ring
		want.Places[slot], want.Samples[slot] = k, of(k)
		if got := ring.Put(api.Ring{}, k, of(k)); got != want {
			t.Errorf("Put(empty, %d): %v", k, got)
		}
	}
	full := api.Ring{}
	for k := int64(1); k <= long; k++ {
		full = ring.Put(full, k+long, of(k))
	}
	for _, k := range []int64{math.MinInt64, -1 << 62, -17, -16, -15, -1, 0, 1<<62 + 1, 1<<62 + 16, math.MaxInt64, 1, 7, 16} {
		if got := ring.Put(full, k, of(k)); got != full {
			t.Errorf("Put(full, %d): %v", k, got)
		}
	}
	for _, k := range []int64{17, 24, 32, 33, 48} {
		want := full
		want.Places[(k-1)%long], want.Samples[(k-1)%long] = k, of(-k)
		if got := ring.Put(full, k, of(-k)); got != want {
			t.Errorf("Put(full, %d): %v", k, got)
		}
	}
}

// TestGet: P12.1: the sample at a place; nothing, and no, of a place that isn't there or may not be.
func TestGet(t *testing.T) {
	source := rand.New(rand.NewSource(2))
	for range 500 {
		r := someRing(source)
		for _, k := range places(r) {
			want, there := modelGet(r, k)
			if s, is := ring.Get(r, k); is != there || s != want {
				t.Fatalf("Get(%v, %d): %v, %t", r, k, s, is)
			}
		}
	}
	for _, k := range edges {
		if s, is := ring.Get(api.Ring{}, k); is || s != (api.Sample{}) {
			t.Errorf("Get(empty, %d): %v, %t", k, s, is)
		}
	}
	r := ring.Put(api.Ring{}, 3, api.Sample{})
	if s, is := ring.Get(r, 3); !is || s != (api.Sample{}) {
		t.Error("a sample with nothing in it is there, too:", s, is)
	}
	if s, is := ring.Get(ring.Put(r, 3, of(5)), 19); is || s != (api.Sample{}) {
		t.Error(s, is)
	}
}

// TestRight: P12.1, the chapter's words: each slot's place, at its ends and of each other slot.
func TestRight(t *testing.T) {
	check := func(r api.Ring, want bool) {
		t.Helper()
		if got := ring.Right(r); got != want || got != modelRight(r) {
			t.Errorf("Right(%v): %t", r, got)
		}
	}
	check(api.Ring{}, true)
	for slot := range long {
		for _, k := range edges {
			var r api.Ring
			r.Places[slot] = k
			may := k == 0 || k > 0 && k <= 1<<62 && (k-1)%long == int64(slot)
			check(r, may)
			r.Samples[slot] = of(1)
			check(r, may && k != 0)
		}
	}
	source := rand.New(rand.NewSource(3))
	for range 20000 {
		check(someRing(source), true)
		r := oddRing(source)
		check(r, modelRight(r))
	}
}

// TestRightNothing: P12.1: of no slot without a place a sample has anything in it.
func TestRightNothing(t *testing.T) {
	some := []api.Sample{{Missing: true}, {HasBaro: true}, {Baro: 1}, {Baro: -1}, {HasGnss: true}}
	for i := range 3 {
		var v api.Vec
		v[i] = api.Low
		some = append(some, api.Sample{Gyro: v}, api.Sample{Acc: v}, api.Sample{Gnss: v})
	}
	for slot := range long {
		for _, s := range some {
			var r api.Ring
			r.Samples[slot] = s
			if ring.Right(r) {
				t.Errorf("%v is right", r)
			}
			// Another place of that slot, that stands elsewhere, doesn't mend it.
			r.Places[(slot+1)%long], r.Samples[(slot+1)%long] = int64(slot+1), s
			if ring.Right(r) {
				t.Errorf("%v is right", r)
			}
			r = api.Ring{}
			r.Places[slot], r.Samples[slot] = int64(slot+1), s
			if !ring.Right(r) {
				t.Errorf("%v isn't right", r)
			}
		}
	}
}

// TestNewest: P12.1: the greatest place, in whichever slot it is.
func TestNewest(t *testing.T) {
	if k := ring.Newest(api.Ring{}); k != 0 {
		t.Error(k)
	}
	for _, k := range edges {
		if got := ring.Newest(ring.Put(api.Ring{}, k, of(k))); isPlace(k) && got != k || !isPlace(k) && got != 0 {
			t.Errorf("Newest of %d alone: %d", k, got)
		}
	}
	source := rand.New(rand.NewSource(4))
	for range 5000 {
		r := someRing(source)
		got, there := ring.Newest(r), false
		for _, k := range r.Places {
			there = there || k == got
			if k > got {
				t.Errorf("Newest(%v): %d", r, got)
			}
		}
		if !there && (got != 0 || len(puts(r)) > 0) {
			t.Errorf("Newest(%v): %d", r, got)
		}
	}
}

// TestMerge: P12.2: slot by slot, and the first one's of the same place.
func TestMerge(t *testing.T) {
	source := rand.New(rand.NewSource(5))
	for range 5000 {
		a := someRing(source)
		b := alike(source, a)
		// Of the same place what is put last stays.
		if got := ring.Merge(a, b); got != modelRing(append(puts(b), puts(a)...)) {
			t.Errorf("Merge(%v, %v): %v", a, b, got)
		}
	}
	a := ring.Put(ring.Put(api.Ring{}, 1, of(1)), 18, of(18))
	b := ring.Put(ring.Put(ring.Put(api.Ring{}, 17, of(17)), 2, of(2)), 5, of(5))
	var want api.Ring
	want.Places = [long]int64{0: 17, 1: 18, 4: 5}
	want.Samples = [long]api.Sample{0: of(17), 1: of(18), 4: of(5)}
	if ring.Merge(a, b) != want || ring.Merge(b, a) != want {
		t.Error(ring.Merge(a, b), ring.Merge(b, a))
	}
	c := ring.Put(api.Ring{}, 5, of(6))
	if x, y := ring.Merge(b, c), ring.Merge(c, b); x.Samples[4] != of(5) || y.Samples[4] != of(6) {
		t.Error(x, y)
	}
}

// TestFill: P12.2: the sample at a place, or one that is Missing and nothing else.
func TestFill(t *testing.T) {
	source := rand.New(rand.NewSource(6))
	for range 500 {
		r := someRing(source)
		for _, k := range places(r) {
			want, there := modelGet(r, k)
			if !there {
				want = api.Sample{Missing: true}
			}
			if s := ring.Fill(r, k); s != want {
				t.Fatalf("Fill(%v, %d): %v", r, k, s)
			}
		}
	}
	r := ring.Put(api.Ring{}, 3, of(3))
	if ring.Fill(r, 3) != of(3) || ring.Fill(r, 19) != (api.Sample{Missing: true}) || ring.Fill(r, 0) != (api.Sample{Missing: true}) {
		t.Error(ring.Fill(r, 3), ring.Fill(r, 19), ring.Fill(r, 0))
	}
}

// TestOddRings: no call panics, of rings that aren't right either.
func TestOddRings(t *testing.T) {
	source := rand.New(rand.NewSource(7))
	for range 3000 {
		a, b := oddRing(source), oddRing(source)
		ring.Merge(a, b)
		ring.Newest(a)
		ring.Right(a)
		for _, k := range places(a) {
			ring.Put(a, k, someSample(source))
			ring.Get(a, k)
			ring.Fill(a, k)
		}
	}
}
