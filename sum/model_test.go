package sum_test

import "math/rand"

// The model divides polynomials, power by power, as CRC-32 is told elsewhere: it has no table, and moves no number.

// divisorPowers are the powers of CRC-32's polynomial, but for the 32nd.
var divisorPowers = []int{26, 23, 22, 16, 12, 11, 10, 8, 7, 5, 4, 2, 1, 0}

// powersOf are the bits of bytes, of each one the lowest first: the highest power first.
func powersOf(b []byte) []bool {
	var list []bool
	for _, x := range b {
		for bit := 0; bit < 8; bit++ {
			list = append(list, x&(1<<bit) != 0)
		}
	}
	return list
}

// modelMore is what is left of c and b, with 32 noughts behind, divided.
func modelMore(c uint32, b []byte) uint32 {
	list := append(powersOf(b), make([]bool, 32)...)
	flip := func(place int) { list[place] = !list[place] }
	for bit := 0; bit < 32; bit++ {
		if c&(1<<bit) != 0 {
			flip(bit)
		}
	}
	for at := 0; at < len(list)-32; at++ {
		if !list[at] {
			continue
		}
		flip(at)
		for _, power := range divisorPowers {
			flip(at + 32 - power)
		}
	}
	var rest uint32
	for bit, set := range list[len(list)-32:] {
		if set {
			rest += 1 << bit
		}
	}
	return rest
}

// modelOf is a sum.
func modelOf(b []byte) uint32 {
	return 4294967295 - modelMore(4294967295, b)
}

// modelSeal is b, and its sum, the lowest byte first.
func modelSeal(b []byte) []byte {
	list := append([]byte{}, b...)
	for n, i := modelOf(b), 0; i < 4; i++ {
		list = append(list, byte(n%256))
		n /= 256
	}
	return list
}

// someBytes are bytes of so many: of all kinds, of few, or all the same.
func someBytes(source *rand.Rand, count int) []byte {
	b := make([]byte, count)
	few, same := byte(1<<source.Intn(8)), byte(source.Intn(256))
	kind := source.Intn(4)
	for i := range b {
		switch kind {
		case 0:
			b[i] = same
		case 1:
			b[i] = few * byte(source.Intn(2))
		default:
			b[i] = byte(source.Intn(256))
		}
	}
	return b
}

// many goes through bytes of each length to 80, and of some greater ones.
func many(check func(source *rand.Rand, b []byte)) {
	source := rand.New(rand.NewSource(7))
	for count := 0; count <= 80; count++ {
		for range 6 {
			check(source, someBytes(source, count))
		}
	}
	for _, count := range []int{127, 128, 149, 255, 256, 257, 511, 1000, 4096, 4824} {
		check(source, someBytes(source, count))
	}
}
