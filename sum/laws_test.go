package sum_test

import (
	"bytes"
	"math/rand"
	"slices"
	"testing"

	"alidade/api"
	"alidade/sum"
)

// TestGoesOn: P7.1: what goes on by parts is what goes on by all.
func TestGoesOn(t *testing.T) {
	many(func(source *rand.Rand, b []byte) {
		c, cut := source.Uint32(), source.Intn(len(b)+1)
		if sum.More(sum.More(c, b[:cut]), b[cut:]) != sum.More(c, b) {
			t.Errorf("More(%d, %v), parted at %d", c, b, cut)
		}
		one := c
		for i := range b {
			one = sum.More(one, b[i:i+1])
		}
		if one != sum.More(c, b) {
			t.Errorf("More(%d, %v), byte by byte", c, b)
		}
	})
}

// TestThereAndBack: P7.3: what was sealed is opened as it was, and what is opened is sealed as it was.
func TestThereAndBack(t *testing.T) {
	check := func(_ *rand.Rand, b []byte) {
		for range 3 {
			sealed := sum.Seal(b)
			if got, e := sum.Open(sealed); e != api.OK || !bytes.Equal(got, b) || !bytes.Equal(sum.Seal(got), sealed) {
				t.Errorf("%v, sealed and opened: %v, %d", b, got, e)
			}
			b = sealed // what is sealed may be sealed again
		}
	}
	many(check)
	check(nil, nil)
}

// changedAt is what was sealed, with other bytes from a place on.
func changedAt(sealed []byte, place int, by ...byte) []byte {
	other := slices.Clone(sealed)
	for i, x := range by {
		other[place+i] ^= x
	}
	return other
}

// seen tells where what was changed isn't seen.
func seen(t *testing.T, sealed []byte, place int, by ...byte) {
	t.Helper()
	if got, e := sum.Open(changedAt(sealed, place, by...)); e != api.ErrSum || len(got) != 0 {
		t.Fatalf("%v, at %d by %v: %v, %d", sealed, place, by, got, e)
	}
}

// TestOneByte: P7.3: each byte, changed in each way.
func TestOneByte(t *testing.T) {
	for _, b := range [][]byte{{}, {0}, {255}, []byte("123456789"), make([]byte, 20)} {
		sealed := sum.Seal(b)
		for place := range sealed {
			for by := 1; by < 256; by++ {
				seen(t, sealed, place, byte(by))
			}
		}
	}
}

// TestTwoBytes: P7.3: each two bytes side by side, changed in each way.
func TestTwoBytes(t *testing.T) {
	sealed := sum.Seal([]byte{7})
	for place := range len(sealed) - 1 {
		for by := 1; by < 1<<16; by++ {
			seen(t, sealed, place, byte(by), byte(by>>8))
		}
	}
}

// TestFourBytes: P7.3: one to four bytes side by side, at any place, of whatever was sealed.
func TestFourBytes(t *testing.T) {
	many(func(source *rand.Rand, b []byte) {
		sealed := sum.Seal(b)
		for place := range sealed {
			by := someBytes(source, min(1+source.Intn(4), len(sealed)-place))
			by[source.Intn(len(by))] |= 1 << source.Intn(8) // one at least
			seen(t, sealed, place, by...)
		}
	})
}

// off is what the sum that is laid behind is off, bit by bit.
func off(b []byte) uint32 {
	cut := len(b) - 4
	laid := b[cut:]
	return sum.Of(b[:cut]) ^ (uint32(laid[0]) + uint32(laid[1])<<8 + uint32(laid[2])<<16 + uint32(laid[3])<<24)
}

// apart tells whether no numbers of these, one at least, exclusive-or one another to 0.
func apart(list []uint32) bool {
	var kept [32]uint32 // by their highest bits
	for _, n := range list {
		for bit := 31; bit >= 0 && n != 0; bit-- {
			if n>>bit&1 == 0 {
				continue
			}
			if kept[bit] == 0 {
				kept[bit] = n
				break
			}
			n ^= kept[bit]
		}
		if n == 0 {
			return false
		}
	}
	return true
}

// TestAllOfFour: P7.3, of all that four bytes side by side may be changed by: what each bit alone puts the sum off adds up, bit by bit, so it's enough that no such bits come to nothing.
func TestAllOfFour(t *testing.T) {
	source := rand.New(rand.NewSource(3))
	for _, count := range []int{0, 1, 2, 3, 4, 5, 8, 9, 25, 33, 65, 145, 600} {
		sealed := sum.Seal(someBytes(source, count))
		for place := range len(sealed) - 3 {
			var list []uint32
			all := uint32(0)
			for bit := range 32 {
				by := uint32(1) << bit
				list = append(list, off(changedAt(sealed, place, byte(by), byte(by>>8), byte(by>>16), byte(by>>24))))
				all ^= list[bit]
			}
			if !apart(list) || off(changedAt(sealed, place, 255, 255, 255, 255)) != all {
				t.Fatalf("of %d bytes, at %d: not all is seen", count, place)
			}
		}
	}
}

// withMore are bytes with others behind them in one memory.
func withMore(b []byte) (part, all []byte) {
	all = append(slices.Clone(b), 1, 2, 3, 4, 5, 6, 7, 8)
	return all[:len(b)], all
}

// TestLeft: R3: what is handed in, and what lies behind it, stays as it is.
func TestLeft(t *testing.T) {
	check := func(_ *rand.Rand, b []byte) {
		part, all := withMore(b)
		before := slices.Clone(all)
		sum.More(9, part)
		sum.Of(part)
		sum.Seal(part)
		sum.Open(part)
		if !bytes.Equal(all, before) {
			t.Errorf("%v became %v", before, all)
		}
	}
	many(check)
	many(func(source *rand.Rand, b []byte) { check(source, modelSeal(b)) })
}

// TestNew: R3: what comes out is changed by nobody who has what was handed in, nor what else came out.
func TestNew(t *testing.T) {
	many(func(_ *rand.Rand, b []byte) {
		part, all := withMore(b)
		sealed, again := sum.Seal(part), sum.Seal(part)
		opened, e := sum.Open(sealed)
		for i := range all {
			all[i] ^= 255
		}
		for i := range again {
			again[i] ^= 255
		}
		want := modelSeal(b)
		if !bytes.Equal(sealed, want) {
			t.Errorf("Seal(%v) became %v", b, sealed)
		}
		for i := range opened {
			opened[i] ^= 255
		}
		if opened = append(opened, 9, 9, 9, 9); e != api.OK || !bytes.Equal(sealed, want) {
			t.Errorf("what Open told of %v changed it: %v", want, sealed)
		}
	})
}
