package sum_test

import (
	"bytes"
	"hash/crc32"
	"math/rand"
	"slices"
	"strings"
	"testing"

	"alidade/api"
	"alidade/sum"
)

// TestTable: P7.1: all 256, each one gone on by eight bits.
func TestTable(t *testing.T) {
	table := sum.Table()
	for i, n := range table {
		if want := modelMore(uint32(i), []byte{0}); n != want || n != crc32.IEEETable[i] {
			t.Errorf("%d: %d, not %d", i, n, want)
		}
	}
	for _, x := range []struct {
		i    int
		want uint32
	}{
		{0, 0},
		{1, 1996959894},
		{64, 3988292384 >> 1},             // the bit falls off ahead of the last one
		{128, 3988292384},                 // the bit falls off last
		{192, 3988292384>>1 ^ 3988292384}, // two, side by side
		{129, 1996959894 ^ 3988292384},    // the first and the last one
		{255, 755167117},
	} {
		if table[x.i] != x.want {
			t.Errorf("%d: %d, not %d", x.i, table[x.i], x.want)
		}
	}
}

// TestTableAlone: who changes what came out changes nothing else.
func TestTableAlone(t *testing.T) {
	table := sum.Table()
	want := table
	clear(table[:])
	if sum.Table() != want || sum.Of([]byte("123456789")) != 3421780262 {
		t.Error("changed by one who has a table")
	}
}

// edgeNumbers are numbers to go on from.
func edgeNumbers() []uint32 {
	list := []uint32{0, 1<<32 - 1, 1<<31 - 1, 3988292384, 255, 256, 1<<24 - 1, 255 << 24}
	for bit := range 32 {
		list = append(list, 1<<bit)
	}
	return list
}

// TestMore: P7.1, from whatever number.
func TestMore(t *testing.T) {
	check := func(c uint32, b []byte) {
		if got, want := sum.More(c, b), modelMore(c, b); got != want {
			t.Errorf("More(%d, %v): %d, not %d", c, b, got, want)
		}
	}
	many(func(source *rand.Rand, b []byte) { check(source.Uint32(), b) })
	for _, c := range edgeNumbers() {
		for x := range 256 {
			check(c, []byte{byte(x)})
		}
		check(c, []byte{0, 0})
		check(c, []byte{0, 0, 0, 0, 0})
		check(c, []byte{255, 255, 255, 255})
	}
}

// TestMoreNothing: P7.1: without a byte a number stays.
func TestMoreNothing(t *testing.T) {
	for _, c := range edgeNumbers() {
		if a, b := sum.More(c, nil), sum.More(c, []byte{}); a != c || b != c {
			t.Errorf("More(%d) of nothing: %d, %d", c, a, b)
		}
	}
}

// TestMoreByTable: P7.1, as the chapter says it of one byte.
func TestMoreByTable(t *testing.T) {
	table := sum.Table()
	for _, c := range edgeNumbers() {
		for x := range uint32(256) {
			if got, want := sum.More(c, []byte{byte(x)}), c/256^table[c%256^x]; got != want {
				t.Errorf("More(%d, %d): %d, not %d", c, x, got, want)
			}
		}
	}
}

// TestOf: P7.1.
func TestOf(t *testing.T) {
	for _, x := range []struct {
		text string
		want uint32
	}{
		{"", 0},
		{"123456789", 3421780262},
		{"a", 3904355907},
		{"abc", 891568578},
		{"\x00", 3523407757},
		{"\xff", 4278190080},
		{"\xff\xff\xff\xff", 4294967295}, // from here on noughts alone
		{strings.Repeat("\x00", 4), 558161692},
		{strings.Repeat("\x00", 32), 420107693},
		{strings.Repeat("\xff", 32), 4285311755},
		{"The quick brown fox jumps over the lazy dog", 1095738169},
	} {
		if got := sum.Of([]byte(x.text)); got != x.want {
			t.Errorf("Of(%q): %d, not %d", x.text, got, x.want)
		}
	}
	if sum.Of(nil) != 0 {
		t.Error("of nothing:", sum.Of(nil))
	}
	many(func(_ *rand.Rand, b []byte) {
		if got, want := sum.Of(b), modelOf(b); got != want || got != crc32.ChecksumIEEE(b) {
			t.Errorf("Of(%v): %d, not %d", b, got, want)
		}
	})
}

// TestOfLong: P7.1, of a million bytes and more.
func TestOfLong(t *testing.T) {
	b := make([]byte, 1<<20+3)
	rand.New(rand.NewSource(1)).Read(b)
	if got, want := sum.Of(b), crc32.ChecksumIEEE(b); got != want {
		t.Error(got, want)
	}
}

// TestSeal: P7.2: what was there, and its sum, the lowest byte first.
func TestSeal(t *testing.T) {
	for _, x := range []struct {
		text string
		sum  []byte
	}{
		{"", []byte{0, 0, 0, 0}},
		{"123456789", []byte{0x26, 0x39, 0xf4, 0xcb}},
		{"a", []byte{0x43, 0xbe, 0xb7, 0xe8}},
		{"\xff", []byte{0, 0, 0, 255}},
	} {
		if got := sum.Seal([]byte(x.text)); string(got) != x.text+string(x.sum) {
			t.Errorf("Seal(%q): %v, not with %v", x.text, got, x.sum)
		}
	}
	if got := sum.Seal(nil); !bytes.Equal(got, make([]byte, 4)) {
		t.Error("of nothing:", got)
	}
	many(func(_ *rand.Rand, b []byte) {
		if got, want := sum.Seal(b), modelSeal(b); !bytes.Equal(got, want) {
			t.Errorf("Seal(%v): %v, not %v", b, got, want)
		}
	})
}

// TestOpen: P7.2: what the model seals.
func TestOpen(t *testing.T) {
	check := func(_ *rand.Rand, b []byte) {
		if got, e := sum.Open(modelSeal(b)); e != api.OK || !bytes.Equal(got, b) {
			t.Errorf("Open of %v, sealed: %v, %d", b, got, e)
		}
	}
	many(check)
	check(nil, modelSeal(nil))
	check(nil, modelSeal(modelSeal([]byte{1})))
}

// refused tells where Open doesn't answer so, and nothing else.
func refused(t *testing.T, b []byte, want api.Errno) {
	t.Helper()
	if got, e := sum.Open(b); e != want || len(got) != 0 {
		t.Errorf("Open(%v): %v, %d, not %d", b, got, e, want)
	}
}

// TestOpenShort: P7.2: less than four bytes, whatever they are.
func TestOpenShort(t *testing.T) {
	refused(t, nil, api.ErrMore)
	refused(t, []byte{}, api.ErrMore)
	for x := range 256 {
		refused(t, []byte{byte(x)}, api.ErrMore)
		refused(t, []byte{byte(x), 0}, api.ErrMore)
		refused(t, []byte{0, byte(x)}, api.ErrMore)
		refused(t, []byte{byte(x), 0, 0}, api.ErrMore)
		refused(t, []byte{0, 0, byte(x)}, api.ErrMore)
	}
	many(func(_ *rand.Rand, b []byte) {
		for count := range 4 {
			refused(t, modelSeal(b)[:count], api.ErrMore)
		}
	})
	if b, e := sum.Open(make([]byte, 4)); e != api.OK || len(b) != 0 {
		t.Error("just four:", b, e)
	}
}

// TestOpenWrong: P7.2: four bytes that Seal wouldn't lay.
func TestOpenWrong(t *testing.T) {
	for _, b := range [][]byte{
		{1, 0, 0, 0}, {0, 0, 0, 1}, {255, 255, 255, 255}, {0, 0, 0, 0, 0}, {255, 255, 255, 255, 255},
		[]byte("123456789"),
		[]byte("123456789\xcb\xf4\x39\x26"), // the highest first
		[]byte("123456789\xd9\xc6\x0b\x34"), // not turned round
		[]byte("\x26\x39\xf4\xcb123456789"), // in front
	} {
		refused(t, b, api.ErrSum)
	}
	many(func(source *rand.Rand, b []byte) {
		sealed := modelSeal(b)
		for place := range 4 {
			wrong := slices.Clone(sealed)
			wrong[len(b)+place] += byte(1 + source.Intn(255))
			refused(t, wrong, api.ErrSum)
		}
	})
}

// TestOpenCut: P7.2: a byte too few or too many is seen, where the sum of what is then there is another one.
func TestOpenCut(t *testing.T) {
	many(func(source *rand.Rand, b []byte) {
		sealed := modelSeal(b)
		for _, other := range [][]byte{sealed[1:], sealed[:len(sealed)-1], append(sealed, byte(source.Intn(256))), append([]byte{byte(source.Intn(256))}, sealed...)} {
			want := api.ErrMore
			if cut := len(other) - 4; cut >= 0 {
				want = api.ErrSum
				if bytes.Equal(other, modelSeal(other[:cut])) {
					want = api.OK
				}
			}
			if _, e := sum.Open(other); e != want {
				t.Errorf("Open(%v): %d, not %d", other, e, want)
			}
		}
	})
}
