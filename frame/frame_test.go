package frame_test

import (
	"bytes"
	"math"
	"math/rand"
	"slices"
	"testing"

	"alidade/api"
	"alidade/frame"
)

// noKinds are numbers that no kind is: beside the kinds, at the ends, and such as are a kind once they are cut.
func noKinds() []int {
	list := []int{0, -1, -7, -8, -9, 9, 10, 255, 256, math.MaxInt, math.MinInt, math.MinInt + 1}
	for kind := 1; kind <= 8; kind++ {
		for _, up := range []int{8, 16, 31, 32, 62} {
			list = append(list, kind+1<<up, kind-1<<up)
		}
		list = append(list, kind+math.MinInt)
	}
	return list
}

// TestLong: P8.1: 3, 8, 8, 5, 18, 4, 1, 15; 0 of another kind.
func TestLong(t *testing.T) {
	kinds := []int{api.FAsk, api.FGrant, api.FOut, api.FSync, api.FEntry, api.FAck, api.FWant, api.FChunk}
	for i, want := range []int{3, 8, 8, 5, 18, 4, 1, 15} {
		if got := frame.Long(kinds[i]); got != want {
			t.Errorf("Long(%d): %d, not %d", kinds[i], got, want)
		}
	}
	for _, kind := range noKinds() {
		if got := frame.Long(kind); got != 0 {
			t.Errorf("Long(%d): %d", kind, got)
		}
	}
	for kind := -1000; kind <= 1000; kind++ {
		if got := frame.Long(kind); got != modelLong(kind) {
			t.Errorf("Long(%d): %d, not %d", kind, got, modelLong(kind))
		}
	}
}

// wrongFrames are frames that aren't right: of no kind, or with too few or too many numbers.
func wrongFrames() []api.Frame {
	source := rand.New(rand.NewSource(1))
	list := []api.Frame{{}, {N: []int64{}}, {Kind: 1}, {Kind: 7, N: []int64{}}, {Kind: 7, N: make([]int64, 1<<16)}}
	for _, kind := range noKinds() {
		for count := range 20 {
			list = append(list, someFrame(source, kind, count))
		}
	}
	for kind := 1; kind <= 8; kind++ {
		for count := range 30 {
			if count != modelLong(kind) {
				list = append(list, someFrame(source, kind, count))
			}
		}
	}
	return list
}

// TestRight: P8.1.
func TestRight(t *testing.T) {
	rightFrames(func(_ *rand.Rand, f api.Frame) {
		if !frame.Right(f) {
			t.Errorf("Right(%v): no", f)
		}
	})
	for _, f := range wrongFrames() {
		if frame.Right(f) {
			t.Errorf("Right(%v): yes", f)
		}
	}
}

// TestSame: P8.1: by kind and numbers, and by nothing else, right or not.
func TestSame(t *testing.T) {
	check := func(a, b api.Frame, want bool) {
		t.Helper()
		if frame.Same(a, b) != want || frame.Same(b, a) != want {
			t.Errorf("Same(%v, %v): not %t", a, b, want)
		}
	}
	every := wrongFrames()
	rightFrames(func(_ *rand.Rand, f api.Frame) { every = append(every, f) })
	for i, f := range every {
		check(f, f, true)
		check(f, api.Frame{Kind: f.Kind, N: append(make([]int64, 0, 99), f.N...)}, true)
		check(f, api.Frame{Kind: f.Kind + 1, N: f.N}, false)
		check(f, api.Frame{Kind: f.Kind + 256, N: f.N}, false)
		check(f, api.Frame{Kind: f.Kind, N: append(slices.Clone(f.N), 0)}, false)
		if len(f.N) > 0 {
			other := slices.Clone(f.N)
			other[i%len(f.N)] ^= 1 << (i % 64)
			check(f, api.Frame{Kind: f.Kind, N: other}, false)
			check(f, api.Frame{Kind: f.Kind, N: f.N[:len(f.N)-1]}, false)
			check(f, api.Frame{Kind: f.Kind, N: f.N[1:]}, false)
		}
	}
	check(api.Frame{}, api.Frame{N: []int64{}}, true) // a list without elements may be nil
	check(api.Frame{Kind: 2}, api.Frame{Kind: 3}, false)
	check(api.Frame{Kind: 3, N: []int64{1, 2}}, api.Frame{Kind: 3, N: []int64{2, 1}}, false)
}

// TestEncode: P8.1, the chapter's example and others, byte by byte.
func TestEncode(t *testing.T) {
	for _, x := range []struct {
		f    api.Frame
		want []byte
	}{
		{api.Frame{Kind: api.FWant, N: []int64{5}}, []byte{7, 0, 0, 0, 0, 0, 0, 0, 5}},
		{api.Frame{Kind: api.FWant, N: []int64{-1}}, []byte{7, 255, 255, 255, 255, 255, 255, 255, 255}},
		{api.Frame{Kind: api.FWant, N: []int64{math.MinInt64}}, []byte{7, 128, 0, 0, 0, 0, 0, 0, 0}},
		{api.Frame{Kind: api.FWant, N: []int64{math.MaxInt64}}, []byte{7, 127, 255, 255, 255, 255, 255, 255, 255}},
		{api.Frame{Kind: api.FWant, N: []int64{0x0102030405060708}}, []byte{7, 1, 2, 3, 4, 5, 6, 7, 8}},
		{api.Frame{Kind: api.FAsk, N: []int64{1, -2, 1 << 8}}, []byte{1, 0, 0, 0, 0, 0, 0, 0, 1, 255, 255, 255, 255, 255, 255, 255, 254, 0, 0, 0, 0, 0, 0, 1, 0}},
	} {
		if got, e := frame.Encode(x.f); e != api.OK || !bytes.Equal(got, sealed(x.want...)) {
			t.Errorf("Encode(%v): %v, %d, not %v, sealed", x.f, got, e, x.want)
		}
	}
	rightFrames(func(_ *rand.Rand, f api.Frame) {
		if got, e := frame.Encode(f); e != api.OK || !bytes.Equal(got, modelBytes(f)) {
			t.Errorf("Encode(%v): %v, %d, not %v", f, got, e, modelBytes(f))
		}
	})
}

// TestEncodeWrong: P8.1: what isn't right has no bytes.
func TestEncodeWrong(t *testing.T) {
	for _, f := range wrongFrames() {
		if got, e := frame.Encode(f); e != api.ErrArg || len(got) != 0 {
			t.Errorf("Encode(%v): %v, %d", f, got, e)
		}
	}
}

// decodes tells where Decode doesn't answer what the model does.
func decodes(t *testing.T, b []byte) {
	t.Helper()
	want, bad := modelFrame(b)
	if got, e := frame.Decode(b); e != bad || got.Kind != want.Kind || !slices.Equal(got.N, want.N) {
		t.Errorf("Decode(%v): %v, %d, not %v, %d", b, got, e, want, bad)
	}
}

// refused tells where Decode doesn't answer so, and nothing else.
func refused(t *testing.T, b []byte, want api.Errno) {
	t.Helper()
	if got, e := frame.Decode(b); e != want || got.Kind != 0 || len(got.N) != 0 {
		t.Errorf("Decode(%v): %v, %d, not %d", b, got, e, want)
	}
}

// TestDecode: P8.2: what the model lays.
func TestDecode(t *testing.T) {
	rightFrames(func(_ *rand.Rand, f api.Frame) {
		if got, e := frame.Decode(modelBytes(f)); e != api.OK || got.Kind != f.Kind || !slices.Equal(got.N, f.N) {
			t.Errorf("Decode of %v: %v, %d", f, got, e)
		}
	})
}

// TestDecodeShort: P8.2: less than four bytes.
func TestDecodeShort(t *testing.T) {
	refused(t, nil, api.ErrMore)
	for count := range 4 {
		for kind := range 256 {
			refused(t, slices.Repeat([]byte{byte(kind)}, count), api.ErrMore)
		}
	}
	rightFrames(func(_ *rand.Rand, f api.Frame) {
		for count := range 4 {
			refused(t, modelBytes(f)[:count], api.ErrMore)
		}
	})
}

// TestDecodeForm: P8.2: sealed, and of no byte, no kind, or not just so many numbers.
func TestDecodeForm(t *testing.T) {
	refused(t, sealed(), api.ErrForm)
	refused(t, make([]byte, 4), api.ErrForm) // the same
	for kind := range 256 {
		for count := range 160 {
			b := laid(byte(kind), make([]int64, 20)...)[:1+count]
			if count == 8*modelLong(kind) && kind >= 1 && kind <= 8 {
				decodes(t, sealed(b...))
			} else {
				refused(t, sealed(b...), api.ErrForm)
			}
		}
	}
	for _, kind := range noKinds() {
		if byte(kind) == 0 || byte(kind) > 8 {
			refused(t, sealed(laid(byte(kind), 1, 2, 3)...), api.ErrForm)
		}
	}
	refused(t, sealed(laid(7, make([]int64, 1<<12)...)...), api.ErrForm)
}

// TestDecodeNear: P8.2: right frames with a few bytes more or less, or another kind.
func TestDecodeNear(t *testing.T) {
	rightFrames(func(source *rand.Rand, f api.Frame) {
		b := laid(byte(f.Kind), f.N...)
		for less := 1; less <= 16 && less < len(b); less++ {
			refused(t, sealed(b[:len(b)-less]...), api.ErrForm)
		}
		for more := 1; more <= 16; more++ {
			refused(t, sealed(append(slices.Clone(b), make([]byte, more)...)...), api.ErrForm)
		}
		for kind := range 20 {
			b[0] = byte(kind)
			decodes(t, sealed(b...))
		}
	})
}

// TestDecodeSum: P8.2: the error of Open is told ahead of ErrForm, and where the form is right too.
func TestDecodeSum(t *testing.T) {
	for _, b := range [][]byte{{0, 0, 0, 1}, {9, 0, 0, 0, 1}, {7, 1, 2, 3, 4}, bytes.Repeat([]byte{255}, 9), laid(7, 5), laid(9, 5)} {
		refused(t, b, api.ErrSum)
	}
	refused(t, laid(0, 0), api.ErrSum)
	rightFrames(func(source *rand.Rand, f api.Frame) {
		b := modelBytes(f)
		for place := range b {
			wrong := slices.Clone(b)
			wrong[place] ^= byte(1 + source.Intn(255))
			refused(t, wrong, api.ErrSum)
		}
	})
}

// TestPack: P8.3, word by word.
func TestPack(t *testing.T) {
	for _, x := range []struct {
		s    api.Sample
		want []int64
	}{
		{api.Sample{}, make([]int64, 13)},
		{api.Sample{Missing: true}, []int64{1, 0, 0, 0, 0, 0, 0, 0, 0, 0, 0, 0, 0}},
		{api.Sample{HasBaro: true}, []int64{0, 0, 0, 0, 0, 0, 0, 1, 0, 0, 0, 0, 0}},
		{api.Sample{HasGnss: true}, []int64{0, 0, 0, 0, 0, 0, 0, 0, 0, 1, 0, 0, 0}},
		{api.Sample{Gyro: api.Vec{1, 2, 3}, Acc: api.Vec{4, 5, 6}, Baro: 7, Gnss: api.Vec{8, 9, 10}}, []int64{0, 1, 2, 3, 4, 5, 6, 0, 7, 0, 8, 9, 10}},
		{api.Sample{Missing: true, Gyro: api.Vec{-1, -2, -3}, Acc: api.Vec{-4, -5, -6}, HasBaro: true, Baro: -7, HasGnss: true, Gnss: api.Vec{-8, -9, -10}}, []int64{1, -1, -2, -3, -4, -5, -6, 1, -7, 1, -8, -9, -10}},
	} {
		if got := frame.Pack(x.s); !slices.Equal(got, x.want) {
			t.Errorf("Pack(%v): %v, not %v", x.s, got, x.want)
		}
	}
	samples(func(_ *rand.Rand, s api.Sample) {
		if got := frame.Pack(s); !slices.Equal(got, modelWords(s)) {
			t.Errorf("Pack(%v): %v, not %v", s, got, modelWords(s))
		}
	})
}

// TestUnpack: P8.3: what the model lays.
func TestUnpack(t *testing.T) {
	samples(func(_ *rand.Rand, s api.Sample) {
		if got, e := frame.Unpack(modelWords(s)); e != api.OK || got != s {
			t.Errorf("Unpack of %v: %v, %d", s, got, e)
		}
	})
}

// noSample tells where Unpack tells a sample.
func noSample(t *testing.T, l []int64) {
	t.Helper()
	if got, e := frame.Unpack(l); e != api.ErrForm || got != (api.Sample{}) {
		t.Errorf("Unpack(%v): %v, %d", l, got, e)
	}
}

// TestUnpackCount: P8.3: not 13 words.
func TestUnpackCount(t *testing.T) {
	noSample(t, nil)
	for count := range 40 {
		if count != 13 {
			noSample(t, make([]int64, count))
			noSample(t, slices.Repeat([]int64{1}, count))
		}
	}
	samples(func(_ *rand.Rand, s api.Sample) {
		l := modelWords(s)
		noSample(t, l[:12])
		noSample(t, l[1:])
		noSample(t, append(l, 0))
	})
}

// TestUnpackFlags: P8.3: three words are 1 or 0; the others are whatever they are.
func TestUnpackFlags(t *testing.T) {
	for place := range 13 {
		for _, n := range edgeNumbers() {
			for _, all := range []int64{0, 1} {
				l := slices.Repeat([]int64{all}, 13)
				l[place] = n
				if flag := place == 0 || place == 7 || place == 9; flag && n != 0 && n != 1 {
					noSample(t, l)
				} else if got, e := frame.Unpack(l); e != api.OK || !slices.Equal(modelWords(got), l) {
					t.Errorf("Unpack(%v): %v, %d", l, got, e)
				}
			}
		}
	}
}
