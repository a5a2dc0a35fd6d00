package frame_test

import (
	"bytes"
	"math/rand"
	"slices"
	"testing"

	"alidade/api"
	"alidade/frame"
)

// TestThereAndBack: P8.4: what was told in bytes is the same.
func TestThereAndBack(t *testing.T) {
	rightFrames(func(_ *rand.Rand, f api.Frame) {
		b, bad := frame.Encode(f)
		got, e := frame.Decode(b)
		if bad != api.OK || e != api.OK || !frame.Same(got, f) || !frame.Right(got) {
			t.Errorf("%v, in bytes and back: %v, %d, %d", f, got, bad, e)
		}
	})
}

// TestBytesBack: P8.2: of whatever bytes a frame is told, its bytes are these.
func TestBytesBack(t *testing.T) {
	source := rand.New(rand.NewSource(2))
	told := 0
	for range 20000 {
		kind := source.Intn(10)
		inner := make([]byte, 1+8*modelLong(kind)+source.Intn(3)/2)
		source.Read(inner)
		inner[0] = byte(kind)
		b := sealed(inner...)
		decodes(t, b)
		f, e := frame.Decode(b)
		if e != api.OK {
			continue
		}
		told++
		if again, e := frame.Encode(f); e != api.OK || !bytes.Equal(again, b) {
			t.Errorf("%v, as a frame and back: %v, %d", b, again, e)
		}
	}
	if told < 1000 {
		t.Error("frames of bytes:", told)
	}
}

// TestOneLength: P8.4: frames of one kind have one length.
func TestOneLength(t *testing.T) {
	long := []int{0, 29, 69, 69, 45, 149, 37, 13, 125} // a byte, the numbers, and four bytes
	rightFrames(func(_ *rand.Rand, f api.Frame) {
		if b, _ := frame.Encode(f); len(b) != long[f.Kind] {
			t.Errorf("Encode(%v): %d bytes", f, len(b))
		}
	})
}

// TestOtherBytes: P8.4: another kind, or a number that is another one by a bit, has other bytes.
func TestOtherBytes(t *testing.T) {
	source := rand.New(rand.NewSource(3))
	for kind := 1; kind <= 8; kind++ {
		f := someFrame(source, kind, modelLong(kind))
		b, _ := frame.Encode(f)
		for place := range f.N {
			for bit := range 64 {
				other := api.Frame{Kind: kind, N: slices.Clone(f.N)}
				other.N[place] ^= 1 << bit
				if c, e := frame.Encode(other); e != api.OK || bytes.Equal(b, c) {
					t.Errorf("%v and %v: %v, %d", f, other, c, e)
				}
			}
		}
	}
	numbers := someFrame(source, api.FGrant, 8).N
	a, _ := frame.Encode(api.Frame{Kind: api.FGrant, N: numbers})
	b, _ := frame.Encode(api.Frame{Kind: api.FOut, N: numbers})
	if bytes.Equal(a, b) {
		t.Error("two kinds of as many numbers:", a)
	}
}

// TestAllOthers: P8.4: of many frames no two have the same bytes, but those that are the same.
func TestAllOthers(t *testing.T) {
	seen := map[string]api.Frame{}
	rightFrames(func(_ *rand.Rand, f api.Frame) {
		b, _ := frame.Encode(f)
		if other, ok := seen[string(b)]; ok && !frame.Same(f, other) {
			t.Errorf("%v and %v: %v", f, other, b)
		}
		seen[string(b)] = f
	})
	if len(seen) < 2000 {
		t.Error("bytes of frames:", len(seen))
	}
}

// TestToldInWords: P8.4: what was told in words is the same; other samples have other words.
func TestToldInWords(t *testing.T) {
	var last api.Sample
	samples(func(_ *rand.Rand, s api.Sample) {
		l := frame.Pack(s)
		if got, e := frame.Unpack(l); e != api.OK || got != s || len(l) != api.SampleWords {
			t.Errorf("%v, in words %v: %v, %d", s, l, got, e)
		}
		if slices.Equal(l, frame.Pack(last)) != (s == last) {
			t.Errorf("%v and %v", s, last)
		}
		last = s
	})
}

// TestInFrame: P8.4: a sample in a frame's numbers, in bytes, and back.
func TestInFrame(t *testing.T) {
	samples(func(source *rand.Rand, s api.Sample) {
		ahead := someFrame(source, api.FEntry, 5).N
		b, bad := frame.Encode(api.Frame{Kind: api.FEntry, N: append(ahead, frame.Pack(s)...)})
		f, e := frame.Decode(b)
		if bad != api.OK || e != api.OK || !slices.Equal(f.N[:5], ahead[:5]) {
			t.Fatalf("%v: %v, %d, %d", s, f, bad, e)
		}
		if got, e := frame.Unpack(f.N[5:]); e != api.OK || got != s {
			t.Errorf("%v: %v, %d", s, got, e)
		}
	})
}

// withMore is a list with others behind it in one memory.
func withMore[T byte | int64](l []T) (part, all []T) {
	all = append(slices.Clone(l), 1, 2, 3, 4, 5, 6, 7, 8)
	return all[:len(l)], all
}

// TestLeft: R3: what is handed in, and what lies behind it, stays as it is.
func TestLeft(t *testing.T) {
	numbers := func(f api.Frame) {
		part, all := withMore(f.N)
		was := slices.Clone(all)
		g := api.Frame{Kind: f.Kind, N: part}
		frame.Right(g)
		frame.Encode(g)
		frame.Same(g, g)
		frame.Unpack(part)
		if !slices.Equal(all, was) {
			t.Errorf("%v became %v", was, all)
		}
	}
	rightFrames(func(_ *rand.Rand, f api.Frame) {
		numbers(f)
		part, all := withMore(modelBytes(f))
		was := slices.Clone(all)
		frame.Decode(part)
		if !bytes.Equal(all, was) {
			t.Errorf("%v became %v", was, all)
		}
	})
	for _, f := range wrongFrames() {
		numbers(f)
	}
	samples(func(_ *rand.Rand, s api.Sample) { numbers(api.Frame{N: modelWords(s)}) })
}

// spoilt writes over all memory of a list.
func spoilt[T byte | int64](l []T) {
	l = l[:cap(l)]
	for i := range l {
		l[i] ^= 99
	}
}

// TestNew: R3: what comes out is changed by nobody who has what was handed in, nor what else came out.
func TestNew(t *testing.T) {
	rightFrames(func(_ *rand.Rand, f api.Frame) {
		want := modelBytes(f)
		handed := api.Frame{Kind: f.Kind, N: slices.Clone(f.N)}
		b, _ := frame.Encode(handed)
		other, _ := frame.Encode(handed)
		spoilt(handed.N)
		spoilt(other)
		if !bytes.Equal(b, want) {
			t.Errorf("Encode(%v) became %v", f, b)
		}
		got, _ := frame.Decode(b)
		again, _ := frame.Decode(b)
		spoilt(again.N)
		if !bytes.Equal(b, want) {
			t.Errorf("what Decode told of %v changed it: %v", want, b)
		}
		spoilt(b)
		if !frame.Same(got, f) {
			t.Errorf("Decode of %v became %v", f, got)
		}
	})
	samples(func(_ *rand.Rand, s api.Sample) {
		l, other := frame.Pack(s), frame.Pack(s)
		spoilt(other)
		got, _ := frame.Unpack(l)
		if !slices.Equal(l, modelWords(s)) || got != s {
			t.Errorf("%v: %v, %v", s, l, got)
		}
	})
}

// TestSameAgain: R4: the same is answered to the same arguments, whatever was asked between.
func TestSameAgain(t *testing.T) {
	last := []byte{}
	rightFrames(func(_ *rand.Rand, f api.Frame) {
		a, _ := frame.Encode(f)
		before, bad := frame.Decode(last)
		b, _ := frame.Encode(f)
		after, e := frame.Decode(last)
		if !bytes.Equal(a, b) || !frame.Same(before, after) || bad != e {
			t.Errorf("%v: %v and %v, %v and %v", f, a, b, before, after)
		}
		last = a
	})
}
