package word_test

import (
	"math"
	"slices"
	"testing"

	"busbar/word"
)

// Promise 1.1.

func TestPutAppendsTheMoreSignificantByteFirst(t *testing.T) {
	for _, c := range []struct {
		b    []byte
		w    uint16
		want []byte
	}{
		{nil, 258, []byte{1, 2}},
		{[]byte{}, 0, []byte{0, 0}},
		{nil, 0x00ff, []byte{0, 255}},
		{nil, 0xff00, []byte{255, 0}},
		{[]byte{9}, 0x8001, []byte{9, 128, 1}},
		{[]byte{7, 8, 9}, 65535, []byte{7, 8, 9, 255, 255}},
	} {
		if got := word.Put(c.b, c.w); !slices.Equal(got, c.want) {
			t.Errorf("Put(%v, %d) = %v, want %v", c.b, c.w, got, c.want)
		}
	}
}

func TestPutLeavesItsArgumentAsItWas(t *testing.T) {
	room := []byte{1, 2, 3, 4, 5}
	for n := range len(room) + 1 {
		word.Put(room[:n], 0xfffe)
		if !slices.Equal(room, []byte{1, 2, 3, 4, 5}) {
			t.Fatalf("Put of the first %d bytes changed what was handed in: %v", n, room)
		}
	}
}

func TestPutReturnsNewMemory(t *testing.T) {
	room := make([]byte, 2, 16)
	first := word.Put(room, 0x0102)
	second := word.Put(room, 0x0304)
	spoil(first)
	if !slices.Equal(second, []byte{0, 0, 3, 4}) {
		t.Error("two results share memory:", second)
	}
	if !slices.Equal(room[:cap(room)], make([]byte, 16)) {
		t.Error("a result shares memory with what was handed in:", room[:cap(room)])
	}
}

func TestGetReadsAtTheIndex(t *testing.T) {
	b := []byte{1, 2, 3, 255}
	for at, want := range []uint16{258, 515, 1023} {
		if got, ok := word.Get(b, at); got != want || !ok {
			t.Errorf("Get(%v, %d) = %d, %v, want %d", b, at, got, ok, want)
		}
	}
	if !slices.Equal(b, []byte{1, 2, 3, 255}) {
		t.Error("Get changed its argument:", b)
	}
}

func TestGetRefusesWhatIsNotThere(t *testing.T) {
	long := []byte{1, 2, 3, 4}
	for _, c := range []struct {
		b  []byte
		at int
	}{
		{nil, 0},
		{nil, -1},
		{[]byte{}, 0},
		{[]byte{1}, 0},
		{[]byte{1}, -1},
		{long, -1},
		{long, -2},
		{long, math.MinInt},
		{long, 3},
		{long, 4},
		{long, 5},
		{long, 1 << 40},
		{long, math.MaxInt - 1},
		{long, math.MaxInt},
		// The bytes behind the length are not part of the argument.
		{long[:2], 1},
		{long[:2], 2},
	} {
		if got, ok := word.Get(c.b, c.at); got != 0 || ok {
			t.Errorf("Get(%v, %d) = %d, %v, want 0, false", c.b, c.at, got, ok)
		}
	}
}

func TestGetReturnsWhatWasPut(t *testing.T) {
	for w := range 1 << 16 {
		b := word.Put([]byte{42}, uint16(w))
		if got, ok := word.Get(b, 1); int(got) != w || !ok {
			t.Fatalf("Get of Put of %d = %d, %v", w, got, ok)
		}
	}
}

// Promise 1.2.

func TestSignedIsTwosComplement(t *testing.T) {
	for w, want := range map[uint16]int{
		0: 0, 1: 1, 32766: 32766, 32767: 32767,
		32768: -32768, 32769: -32767, 65534: -2, 65535: -1,
	} {
		if got := word.Signed(w); got != want {
			t.Errorf("Signed(%d) = %d, want %d", w, got, want)
		}
	}
}

func TestOfTakesSignedAndUnsignedNumbers(t *testing.T) {
	for n, want := range map[int]uint16{
		-32768: 32768, -32767: 32769, -2: 65534, -1: 65535,
		0: 0, 1: 1, 32767: 32767, 32768: 32768, 65534: 65534, 65535: 65535,
	} {
		if got, ok := word.Of(n); got != want || !ok {
			t.Errorf("Of(%d) = %d, %v, want %d", n, got, ok, want)
		}
	}
}

func TestOfRefusesOtherNumbers(t *testing.T) {
	for _, n := range []int{
		-32769, -32770, -65535, -65536, 65536, 65537,
		1 << 32, -1 << 32, math.MinInt, math.MaxInt,
	} {
		if got, ok := word.Of(n); got != 0 || ok {
			t.Errorf("Of(%d) = %d, %v, want 0, false", n, got, ok)
		}
	}
}

func TestEveryWordIsThatOfBothItsNumbers(t *testing.T) {
	for w := range 1 << 16 {
		n := word.Signed(uint16(w))
		if n < -32768 || n > 32767 || (n-w)%65536 != 0 {
			t.Fatalf("Signed(%d) = %d", w, n)
		}
		for _, number := range []int{w, n} {
			if got, ok := word.Of(number); int(got) != w || !ok {
				t.Fatalf("Of(%d) = %d, %v, want %d", number, got, ok, w)
			}
		}
	}
}

// Promise 1.3.

func TestJoinAndSplitInBothOrders(t *testing.T) {
	for _, c := range []struct {
		ws     []uint16
		little bool
		v      uint64
	}{
		{[]uint16{0}, false, 0},
		{[]uint16{7}, false, 7},
		{[]uint16{7}, true, 7},
		{[]uint16{65535}, true, 65535},
		{[]uint16{1, 2}, false, 65538},
		{[]uint16{1, 2}, true, 131073},
		{[]uint16{65535, 65535}, false, 1<<32 - 1},
		{[]uint16{1, 2, 3}, false, 0x0001_0002_0003},
		{[]uint16{1, 2, 3}, true, 0x0003_0002_0001},
		{[]uint16{0, 0, 1}, false, 1},
		{[]uint16{0, 0, 1}, true, 1 << 32},
		{[]uint16{65535, 65535, 65535}, true, 1<<48 - 1},
		{[]uint16{0x1234, 0x5678, 0x9abc, 0xdef0}, false, 0x1234_5678_9abc_def0},
		{[]uint16{0x1234, 0x5678, 0x9abc, 0xdef0}, true, 0xdef0_9abc_5678_1234},
		{[]uint16{0x8000, 0, 0, 0}, false, 1 << 63},
		{[]uint16{0x8000, 0, 0, 0}, true, 1 << 15},
		{[]uint16{0, 0, 0, 0}, true, 0},
		{[]uint16{65535, 65535, 65535, 65535}, false, math.MaxUint64},
	} {
		given := slices.Clone(c.ws)
		if got, ok := word.Join(given, c.little); got != c.v || !ok {
			t.Errorf("Join(%v, %v) = %d, %v, want %d", c.ws, c.little, got, ok, c.v)
		}
		if !slices.Equal(given, c.ws) {
			t.Errorf("Join changed %v to %v", c.ws, given)
		}
		if got, ok := word.Split(c.v, len(c.ws), c.little); !slices.Equal(got, c.ws) || !ok {
			t.Errorf("Split(%d, %d, %v) = %v, %v, want %v", c.v, len(c.ws), c.little, got, ok, c.ws)
		}
	}
}

func TestJoinRefusesOtherNumbersOfWords(t *testing.T) {
	for _, ws := range [][]uint16{nil, {}, {0, 0, 0, 0, 0}, {1, 2, 3, 4, 5}, make([]uint16, 1000)} {
		for _, little := range []bool{false, true} {
			if got, ok := word.Join(ws, little); got != 0 || ok {
				t.Errorf("Join of %d words, %v = %d, %v, want 0, false", len(ws), little, got, ok)
			}
		}
	}
}

func TestSplitRefusesOtherNumbersOfWords(t *testing.T) {
	for _, n := range []int{0, -1, -4, 5, 6, 1 << 32, 1<<60 + 1, math.MinInt, math.MaxInt} {
		for _, little := range []bool{false, true} {
			refuseSplit(t, 0, n, little)
			refuseSplit(t, math.MaxUint64, n, little)
		}
	}
}

func TestSplitRefusesWhatDoesNotFit(t *testing.T) {
	for n := 1; n <= 3; n++ {
		least := uint64(1) << (16 * n)
		for _, little := range []bool{false, true} {
			for _, v := range []uint64{least, least + 1, 1 << 63, math.MaxUint64} {
				refuseSplit(t, v, n, little)
			}
			ws, ok := word.Split(least-1, n, little)
			if got, joined := word.Join(ws, little); !ok || !joined || got != least-1 || len(ws) != n {
				t.Errorf("Split(%d, %d, %v) = %v, %v", least-1, n, little, ws, ok)
			}
		}
	}
}

func TestSplitReturnsNewMemory(t *testing.T) {
	first, _ := word.Split(0x0001_0002, 2, false)
	second, _ := word.Split(0x0001_0002, 2, false)
	spoil(first)
	if !slices.Equal(second, []uint16{1, 2}) {
		t.Error("two results share memory:", second)
	}
}

func refuseSplit(t *testing.T, v uint64, n int, little bool) {
	t.Helper()
	if ws, ok := word.Split(v, n, little); len(ws) != 0 || ok {
		t.Errorf("Split(%d, %d, %v) = %v, %v, want none, false", v, n, little, ws, ok)
	}
}

// spoil overwrites a result with its spare capacity, to show what shares memory with it.
func spoil[E byte | uint16](l []E) {
	l = l[:cap(l)]
	for i := range l {
		l[i] = 0xee
	}
}
