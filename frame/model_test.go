package frame_test

import (
	"encoding/binary"
	"hash/crc32"
	"math"
	"math/rand"
	"slices"

	"alidade/api"
)

// The model lays numbers by encoding/binary, sums by hash/crc32, and words one by one.

// modelLong is how many numbers a kind has, written out once more.
func modelLong(kind int) int {
	switch kind {
	case 1:
		return 3
	case 2, 3:
		return 8
	case 4:
		return 5
	case 5:
		return 18
	case 6:
		return 4
	case 7:
		return 1
	case 8:
		return 15
	}
	return 0
}

// sealed is bytes, and their sum, the lowest byte first.
func sealed(b ...byte) []byte {
	return binary.LittleEndian.AppendUint32(slices.Clone(b), crc32.ChecksumIEEE(b))
}

// laid is a kind and numbers as bytes, whether or not they make a right frame.
func laid(kind byte, numbers ...int64) []byte {
	b := []byte{kind}
	for _, n := range numbers {
		b = binary.BigEndian.AppendUint64(b, uint64(n))
	}
	return b
}

// modelBytes are the bytes of a right frame.
func modelBytes(f api.Frame) []byte {
	return sealed(laid(byte(f.Kind), f.N...)...)
}

// modelFrame is the frame of bytes, or what is wrong with them.
func modelFrame(b []byte) (api.Frame, api.Errno) {
	if len(b) < 4 {
		return api.Frame{}, api.ErrMore
	}
	inner := b[:len(b)-4]
	if !slices.Equal(sealed(inner...), b) {
		return api.Frame{}, api.ErrSum
	}
	for kind := 1; kind <= 8; kind++ {
		if len(inner) != 1+8*modelLong(kind) || int(inner[0]) != kind {
			continue
		}
		f := api.Frame{Kind: kind}
		for at := 1; at < len(inner); at += 8 {
			f.N = append(f.N, int64(binary.BigEndian.Uint64(inner[at:])))
		}
		return f, api.OK
	}
	return api.Frame{}, api.ErrForm
}

// word is 1 or 0.
func word(yes bool) int64 {
	if yes {
		return 1
	}
	return 0
}

// modelWords are a sample's words.
func modelWords(s api.Sample) []int64 {
	return []int64{
		word(s.Missing),
		int64(s.Gyro[0]), int64(s.Gyro[1]), int64(s.Gyro[2]),
		int64(s.Acc[0]), int64(s.Acc[1]), int64(s.Acc[2]),
		word(s.HasBaro), int64(s.Baro),
		word(s.HasGnss), int64(s.Gnss[0]), int64(s.Gnss[1]), int64(s.Gnss[2]),
	}
}

// edgeNumbers are numbers with each bit alone, and at the ends.
func edgeNumbers() []int64 {
	list := []int64{0, -1, -2, 255, 256, -256, math.MaxInt64, math.MinInt64, math.MinInt64 + 1, int64(api.Top), int64(api.Low), 0x0123456789abcdef, -0x0123456789abcdef}
	for bit := range 64 {
		list = append(list, 1<<bit, ^(1 << bit))
	}
	return list
}

// someNumber is a number of some size.
func someNumber(source *rand.Rand) int64 {
	return int64(source.Uint64()) >> source.Intn(64)
}

// someFrame is a frame of a kind and so many numbers.
func someFrame(source *rand.Rand, kind, count int) api.Frame {
	f := api.Frame{Kind: kind}
	for range count {
		f.N = append(f.N, someNumber(source))
	}
	return f
}

// someSample is a sample; what it doesn't have is measured too.
func someSample(source *rand.Rand) api.Sample {
	q := func() api.Q { return api.Q(someNumber(source)) }
	three := func() api.Vec { return api.Vec{q(), q(), q()} }
	bits := source.Intn(8)
	return api.Sample{Missing: bits&1 != 0, Gyro: three(), Acc: three(), HasBaro: bits&2 != 0, Baro: q(), HasGnss: bits&4 != 0, Gnss: three()}
}

// rightFrames goes through right frames of all kinds: of edges, and of others.
func rightFrames(check func(source *rand.Rand, f api.Frame)) {
	source := rand.New(rand.NewSource(8))
	for kind := 1; kind <= 8; kind++ {
		for _, n := range edgeNumbers() {
			check(source, api.Frame{Kind: kind, N: slices.Repeat([]int64{n}, modelLong(kind))})
		}
		for range 200 {
			check(source, someFrame(source, kind, modelLong(kind)))
		}
	}
}

// samples goes through samples of all sorts.
func samples(check func(source *rand.Rand, s api.Sample)) {
	source := rand.New(rand.NewSource(9))
	check(source, api.Sample{})
	for _, n := range edgeNumbers() {
		q := api.Q(n)
		v := api.Vec{q, q, q}
		check(source, api.Sample{Gyro: v, Acc: v, Baro: q, Gnss: v})
		check(source, api.Sample{Missing: true, Gyro: v, Acc: v, HasBaro: true, Baro: q, HasGnss: true, Gnss: v})
	}
	for range 2000 {
		check(source, someSample(source))
	}
}
