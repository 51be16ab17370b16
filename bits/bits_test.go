package bits_test

import (
	"math"
	"slices"
	"testing"

	"busbar/bits"
)

// Promise 2.1.

func TestBytesRoundsUp(t *testing.T) {
	for n, want := range map[int]int{
		1: 1, 2: 1, 7: 1, 8: 1, 9: 2, 15: 2, 16: 2, 17: 3, 24: 3, 25: 4, 2000: 250, 2001: 251,
		math.MaxInt - 7: math.MaxInt >> 3, math.MaxInt - 6: math.MaxInt>>3 + 1, math.MaxInt: math.MaxInt>>3 + 1,
	} {
		if got := bits.Bytes(n); got != want {
			t.Errorf("Bytes(%d) = %d, want %d", n, got, want)
		}
	}
}

func TestBytesOfNoBits(t *testing.T) {
	for _, n := range []int{0, -1, -2, -7, -8, -9, -16, -1 << 40, math.MinInt, math.MinInt + 1} {
		if got := bits.Bytes(n); got != 0 {
			t.Errorf("Bytes(%d) = %d, want 0", n, got)
		}
	}
}

func TestPack(t *testing.T) {
	for _, c := range []struct {
		l    []bool
		want []byte
	}{
		{nil, nil},
		{[]bool{}, nil},
		{[]bool{false}, []byte{0}},
		{[]bool{true}, []byte{1}},
		{[]bool{true, false, true}, []byte{5}},
		{[]bool{false, true, true, true, true, true, true}, []byte{0x7e}},
		{[]bool{true, false, false, false, false, false, false, false}, []byte{1}},
		{[]bool{false, false, false, false, false, false, false, true}, []byte{0x80}},
		{[]bool{true, true, true, true, true, true, true, true}, []byte{0xff}},
		{[]bool{false, false, false, false, false, false, false, false, true}, []byte{0, 1}},
		{[]bool{true, false, true, true, false, false, true, true, true, false}, []byte{0xcd, 1}},
	} {
		given := slices.Clone(c.l)
		if got := bits.Pack(given); !slices.Equal(got, c.want) {
			t.Errorf("Pack(%v) = %v, want %v", c.l, got, c.want)
		}
		if !slices.Equal(given, c.l) {
			t.Errorf("Pack changed %v to %v", c.l, given)
		}
	}
}

func TestPackOfOneBitInMany(t *testing.T) {
	for n := range 40 {
		for i := range n {
			l := make([]bool, n)
			l[i] = true
			want := make([]byte, (n+7)/8)
			want[i/8] = []byte{1, 2, 4, 8, 16, 32, 64, 128}[i%8]
			if got := bits.Pack(l); !slices.Equal(got, want) {
				t.Fatalf("Pack of %d bits with bit %d = %v, want %v", n, i, got, want)
			}
		}
	}
}

func TestPackLeavesTheBitsAfterThemZero(t *testing.T) {
	for n := 1; n <= 24; n++ {
		// The bits behind the length are not part of the argument.
		b := bits.Pack(alternating(32, true, true)[:n])
		if len(b) != bits.Bytes(n) {
			t.Fatalf("Pack of %d bits has %d bytes", n, len(b))
		}
		for i := range 8 * len(b) {
			if set := b[i/8]>>(i%8)&1 == 1; set != (i < n) {
				t.Errorf("Pack of %d set bits = %v: bit %d is %v", n, b, i, set)
			}
		}
	}
}

func TestPackReturnsNewMemory(t *testing.T) {
	l := []bool{true, false, true}
	first, second := bits.Pack(l), bits.Pack(l)
	spoil(first)
	if !slices.Equal(second, []byte{5}) {
		t.Error("two results share memory:", second)
	}
}

// Promise 2.2.

func TestUnpack(t *testing.T) {
	for _, c := range []struct {
		b    []byte
		want []bool
	}{
		{nil, nil},
		{[]byte{}, nil},
		{[]byte{0}, []bool{false}},
		{[]byte{1}, []bool{true}},
		{[]byte{0x80}, []bool{false, false, false, false, false, false, false, true}},
		{[]byte{0xcd, 1}, []bool{true, false, true, true, false, false, true, true, true, false}},
		// The other bits of the last byte do not matter.
		{[]byte{0xff}, []bool{true, true}},
		{[]byte{0xfe}, []bool{false}},
		{[]byte{0xfd}, []bool{true, false}},
		{[]byte{0, 0xfe}, make([]bool, 9)},
		{[]byte{0, 0x80}, make([]bool, 15)},
	} {
		given := slices.Clone(c.b)
		if got, ok := bits.Unpack(given, len(c.want)); !slices.Equal(got, c.want) || !ok {
			t.Errorf("Unpack(%v, %d) = %v, %v, want %v", c.b, len(c.want), got, ok, c.want)
		}
		if !slices.Equal(given, c.b) {
			t.Errorf("Unpack changed %v to %v", c.b, given)
		}
	}
}

func TestUnpackRefusesOtherNumbersOfBytes(t *testing.T) {
	for n := range 34 {
		right := (n + 7) / 8
		for size := range 7 {
			l, ok := bits.Unpack(make([]byte, size), n)
			if ok != (size == right) {
				t.Errorf("Unpack of %d bytes, %d = %v, %v", size, n, l, ok)
			}
			if size != right && len(l) != 0 {
				t.Errorf("Unpack of %d bytes, %d returns bits beside false: %v", size, n, l)
			}
		}
	}
}

func TestUnpackRefuses(t *testing.T) {
	room := []byte{1, 2, 3, 4}
	for _, c := range []struct {
		b []byte
		n int
	}{
		{nil, 1},
		{nil, -1},
		{[]byte{}, -1},
		{[]byte{}, -8},
		{nil, math.MinInt},
		{nil, math.MaxInt},
		{[]byte{0}, 0},
		{[]byte{0}, -1},
		{[]byte{0}, -8},
		{[]byte{0}, 9},
		{[]byte{0, 0}, 8},
		{[]byte{0, 0}, 17},
		{[]byte{1}, math.MinInt},
		{[]byte{1}, math.MaxInt},
		{[]byte{1}, 1 << 40},
		// The bytes behind the length are not part of the argument.
		{room[:1], 9},
		{room[:2], 32},
	} {
		if l, ok := bits.Unpack(c.b, c.n); len(l) != 0 || ok {
			t.Errorf("Unpack(%v, %d) = %v, %v, want none, false", c.b, c.n, l, ok)
		}
	}
}

func TestUnpackReturnsWhatWasPacked(t *testing.T) {
	for n := range 70 {
		for _, l := range [][]bool{alternating(n, true, false), alternating(n, false, true), alternating(n, true, true)} {
			if got, ok := bits.Unpack(bits.Pack(l), n); !slices.Equal(got, l) || !ok {
				t.Fatalf("Unpack of Pack of %v = %v, %v", l, got, ok)
			}
		}
	}
	for v := range 256 {
		l, ok := bits.Unpack([]byte{byte(v)}, 8)
		if b := bits.Pack(l); !ok || !slices.Equal(b, []byte{byte(v)}) {
			t.Fatalf("Pack of Unpack of %d = %v", v, b)
		}
	}
}

func TestUnpackReturnsNewMemory(t *testing.T) {
	b := []byte{3}
	first, _ := bits.Unpack(b, 2)
	second, _ := bits.Unpack(b, 2)
	first[0], first[1] = false, false
	if !slices.Equal(second, []bool{true, true}) {
		t.Error("two results share memory:", second)
	}
}

func TestGet(t *testing.T) {
	b := []byte{0x81, 2, 0x40}
	set := []int{0, 7, 9, 22}
	for i := range 24 {
		if got := bits.Get(b, i); got != slices.Contains(set, i) {
			t.Errorf("Get(%v, %d) = %v", b, i, got)
		}
	}
	if !slices.Equal(b, []byte{0x81, 2, 0x40}) {
		t.Error("Get changed its argument:", b)
	}
}

func TestGetOfNoBit(t *testing.T) {
	full := []byte{255, 255, 255, 255}
	for _, b := range [][]byte{nil, {}, full[:1], full[:2], full} {
		for _, i := range noBits(b) {
			if bits.Get(b, i) {
				t.Errorf("Get(%v, %d) = true", b, i)
			}
		}
	}
}

func TestSet(t *testing.T) {
	for _, b := range [][]byte{{0}, {255}, {0x81, 2}, {0xa5, 0x5a, 0xff}, {0, 0, 0, 0}} {
		for i := range 8 * len(b) {
			for _, v := range []bool{false, true} {
				given := slices.Clone(b)
				got := bits.Set(given, i, v)
				if !slices.Equal(given, b) {
					t.Fatalf("Set(%v, %d, %v) changed its argument to %v", b, i, v, given)
				}
				if want := withBit(b, i, v); !slices.Equal(got, want) {
					t.Errorf("Set(%v, %d, %v) = %v, want %v", b, i, v, got, want)
				}
			}
		}
	}
}

func TestSetOfNoBit(t *testing.T) {
	room := []byte{0x81, 2, 0, 255}
	for _, b := range [][]byte{nil, {}, room[:1], room[:2], room} {
		for _, i := range noBits(b) {
			for _, v := range []bool{false, true} {
				if got := bits.Set(b, i, v); !slices.Equal(got, b) {
					t.Errorf("Set(%v, %d, %v) = %v", b, i, v, got)
				}
			}
		}
	}
	if !slices.Equal(room, []byte{0x81, 2, 0, 255}) {
		t.Error("Set changed what was handed in:", room)
	}
}

func TestSetReturnsNewMemory(t *testing.T) {
	room := []byte{1, 2, 3, 4, 5}
	// Bit 3 is there, bits -1 and 16 are not; bit 0 is set already.
	for _, i := range []int{-1, 0, 3, 16} {
		first := bits.Set(room[:2], i, true)
		second := bits.Set(room[:2], i, true)
		want := slices.Clone(second)
		spoil(first)
		if !slices.Equal(second, want) {
			t.Errorf("two results of Set at %d share memory: %v", i, second)
		}
		if !slices.Equal(room, []byte{1, 2, 3, 4, 5}) {
			t.Fatalf("the result of Set at %d shares memory with what was handed in: %v", i, room)
		}
	}
}

// withBit works by adding and taking away, so that it does not lean on what it is held against.
func withBit(b []byte, i int, v bool) []byte {
	out := slices.Clone(b)
	weight := []int{1, 2, 4, 8, 16, 32, 64, 128}[i%8]
	old := int(b[i/8])
	is := old/weight%2 == 1
	if v && !is {
		out[i/8] = byte(old + weight)
	}
	if !v && is {
		out[i/8] = byte(old - weight)
	}
	return out
}

// noBits are indices before the first and behind the last bit of b.
func noBits(b []byte) []int {
	n := 8 * len(b)
	return []int{
		-1, -2, -7, -8, -9, -1 << 40, math.MinInt, math.MinInt + 1,
		n, n + 1, n + 7, n + 8, n + 64, 1 << 32, 1 << 40, 1 << 60, 1 << 62, math.MaxInt - 7, math.MaxInt,
	}
}

func alternating(n int, even, odd bool) []bool {
	l := make([]bool, n)
	for i := range l {
		l[i] = even
		if i%2 == 1 {
			l[i] = odd
		}
	}
	return l
}

// spoil overwrites a result with its spare capacity, to show what shares memory with it.
func spoil(b []byte) {
	b = b[:cap(b)]
	for i := range b {
		b[i] = 0xee
	}
}
