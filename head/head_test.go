package head_test

import (
	"bytes"
	"math"
	"testing"

	"busbar/api"
	"busbar/head"
)

// bytesOf writes a header down as the chapter says it, without the package.
func bytesOf(h head.Head) []byte {
	return []byte{byte(h.Trans / 256), byte(h.Trans % 256), 0, 0, byte(h.Length / 256), byte(h.Length % 256), byte(h.Unit)}
}

// spoil overwrites b and the spare capacity behind it.
func spoil(b []byte) {
	b = b[:cap(b)]
	for i := range b {
		b[i] = 0xEE
	}
}

// Promise 4.1.

func TestPut(t *testing.T) {
	for _, c := range []struct {
		h    head.Head
		want []byte
	}{
		{head.Head{Trans: 1, Length: 6, Unit: 17}, []byte{0, 1, 0, 0, 0, 6, 17}},
		{head.Head{Trans: 0x1234, Length: 0x56, Unit: 0x78}, []byte{0x12, 0x34, 0, 0, 0, 0x56, 0x78}},
		{head.Head{Trans: 256, Length: 100, Unit: 1}, []byte{1, 0, 0, 0, 0, 100, 1}},
		{head.Head{Trans: 0, Length: 2, Unit: 0}, []byte{0, 0, 0, 0, 0, 2, 0}},
		{head.Head{Trans: 65535, Length: 254, Unit: 255}, []byte{255, 255, 0, 0, 0, 254, 255}},
		{head.Head{Trans: 65535, Length: 2, Unit: 0}, []byte{255, 255, 0, 0, 0, 2, 0}},
		{head.Head{Trans: 0, Length: 254, Unit: 0}, []byte{0, 0, 0, 0, 0, 254, 0}},
		{head.Head{Trans: 0, Length: 2, Unit: 255}, []byte{0, 0, 0, 0, 0, 2, 255}},
	} {
		if b, e := head.Put(c.h); !bytes.Equal(b, c.want) || e != api.OK {
			t.Errorf("Put(%v) = %v, %d; want %v", c.h, b, e, c.want)
		}
	}
}

func TestPutEveryNumber(t *testing.T) {
	put := func(h head.Head) {
		if b, e := head.Put(h); !bytes.Equal(b, bytesOf(h)) || e != api.OK {
			t.Errorf("Put(%v) = %v, %d", h, b, e)
		}
	}
	for n := 0; n <= 65535; n++ {
		put(head.Head{Trans: n, Length: 6, Unit: 17})
	}
	for n := 2; n <= 254; n++ {
		put(head.Head{Trans: 1, Length: n, Unit: 17})
	}
	for n := 0; n <= 255; n++ {
		put(head.Head{Trans: 1, Length: 6, Unit: n})
	}
}

func TestPutOutOfRange(t *testing.T) {
	ends := []int{math.MinInt, math.MinInt + 1, math.MinInt + 6, math.MinInt32, -65536, -256, -255, -2, -1,
		65536, 65537, 65536 + 6, 1<<31 + 6, 1<<32 + 6, math.MaxInt - 1, math.MaxInt}
	refused := func(h head.Head) {
		if b, e := head.Put(h); len(b) != 0 || e != api.ErrArg {
			t.Errorf("Put(%v) = %v, %d; want ErrArg", h, b, e)
		}
	}
	for _, n := range ends {
		refused(head.Head{Trans: n, Length: 6, Unit: 17})
	}
	for _, n := range append([]int{0, 1, 255, 256, 257, 256 + 6, 65535}, ends...) {
		refused(head.Head{Trans: 1, Length: n, Unit: 17})
	}
	for _, n := range append([]int{256, 257, 256 + 17, 65535}, ends...) {
		refused(head.Head{Trans: 1, Length: 6, Unit: n})
	}
	refused(head.Head{})
	refused(head.Head{Trans: math.MinInt, Length: math.MinInt, Unit: math.MinInt})
	refused(head.Head{Trans: math.MaxInt, Length: math.MaxInt, Unit: math.MaxInt})
	refused(head.Head{Trans: -1, Length: 255, Unit: 256})
}

func TestPutIsNewMemory(t *testing.T) {
	h := head.Head{Trans: 1, Length: 6, Unit: 17}
	first, _ := head.Put(h)
	second, _ := head.Put(h)
	spoil(first)
	third, _ := head.Put(h)
	if !bytes.Equal(second, bytesOf(h)) || !bytes.Equal(third, bytesOf(h)) {
		t.Errorf("after a change of the first: %v, %v", second, third)
	}
}

// Promise 4.2.

func TestGet(t *testing.T) {
	for _, h := range []head.Head{
		{Trans: 1, Length: 6, Unit: 17},
		{Trans: 0x1234, Length: 0x56, Unit: 0x78},
		{Trans: 256, Length: 100, Unit: 1},
		{Trans: 0, Length: 2, Unit: 0},
		{Trans: 65535, Length: 254, Unit: 255},
	} {
		b := bytesOf(h)
		for _, more := range [][]byte{nil, {0}, {3, 0, 0, 0, 1}, bytes.Repeat([]byte{255}, 600)} {
			in := append(bytes.Clone(b), more...)
			if got, e := head.Get(in); got != h || e != api.OK {
				t.Errorf("Get(%v) = %v, %d; want %v", in, got, e, h)
			}
		}
	}
}

func TestGetEveryNumber(t *testing.T) {
	get := func(h head.Head) {
		if got, e := head.Get(bytesOf(h)); got != h || e != api.OK {
			t.Errorf("Get(%v) = %v, %d", bytesOf(h), got, e)
		}
	}
	for n := 0; n <= 65535; n++ {
		get(head.Head{Trans: n, Length: 6, Unit: 17})
	}
	for n := 2; n <= 254; n++ {
		get(head.Head{Trans: 1, Length: n, Unit: 17})
	}
	for n := 0; n <= 255; n++ {
		get(head.Head{Trans: 1, Length: 6, Unit: n})
	}
}

func fails(t *testing.T, b []byte, want api.Errno) {
	t.Helper()
	if h, e := head.Get(b); h != (head.Head{}) || e != want {
		t.Errorf("Get(%v) = %v, %d; want %d", b, h, e, want)
	}
}

func TestGetOfTooFew(t *testing.T) {
	fails(t, nil, api.ErrMore)
	fails(t, []byte{}, api.ErrMore)
	// Wrong ones too: below six bytes, nothing is told of their form.
	for _, b := range [][]byte{
		{0x12, 0x34, 0, 0, 0, 6, 17},
		{0xFF, 0xFF, 0, 0, 0, 2, 255},
		{0, 1, 1, 0, 0, 6, 17},
		{0, 1, 0, 1, 0, 6, 17},
		{0, 1, 0, 0, 1, 6, 17},
		{9, 9, 9, 9, 9, 9, 9},
	} {
		for n := 1; n <= 5; n++ {
			fails(t, b[:n], api.ErrMore) // what stands behind the n bytes is no part of them
			fails(t, bytes.Clone(b[:n]), api.ErrMore)
		}
	}
}

func TestGetOfSix(t *testing.T) {
	for _, h := range []head.Head{{Trans: 1, Length: 6, Unit: 17}, {Trans: 0, Length: 2}, {Trans: 65535, Length: 254, Unit: 255}} {
		fails(t, bytesOf(h)[:6], api.ErrMore)
		fails(t, bytes.Clone(bytesOf(h)[:6]), api.ErrMore)
	}
}

func TestGetOfWrongForm(t *testing.T) {
	wrong := [][]byte{
		{0, 1, 0, 1, 0, 6},
		{0, 1, 1, 0, 0, 6},
		{0, 1, 0, 255, 0, 6},
		{0, 1, 255, 0, 0, 6},
		{0, 1, 0, 128, 0, 6},
		{0, 1, 128, 0, 0, 6},
		{0, 1, 0, 0, 0, 0},
		{0, 1, 0, 0, 0, 1},
		{0, 1, 0, 0, 0, 255},
		{0, 1, 0, 0, 1, 0},
		{0, 1, 0, 0, 1, 6},
		{0, 1, 0, 0, 128, 6},
		{0, 1, 0, 0, 255, 255},
		{0, 1, 255, 255, 0, 0},
	}
	for _, b := range wrong {
		fails(t, b, api.ErrForm)
		fails(t, append(bytes.Clone(b), 17), api.ErrForm)
		fails(t, append(bytes.Clone(b), 17, 3, 0, 0, 0, 1), api.ErrForm)
	}
}

func TestGetOfEveryProtocolAndLength(t *testing.T) {
	for n := 1; n <= 65535; n++ {
		fails(t, []byte{0, 1, byte(n >> 8), byte(n), 0, 6, 17}, api.ErrForm)
	}
	for n := 0; n <= 65535; n++ {
		if n < 2 || n > 254 {
			fails(t, []byte{0, 1, 0, 0, byte(n >> 8), byte(n), 17}, api.ErrForm)
			fails(t, []byte{0, 1, 0, 0, byte(n >> 8), byte(n)}, api.ErrForm)
		} else {
			fails(t, []byte{0, 1, 0, 0, byte(n >> 8), byte(n)}, api.ErrMore)
		}
	}
}

func TestGetChangesNothing(t *testing.T) {
	for _, b := range [][]byte{
		{0x12, 0x34, 0, 0, 0, 6, 17, 3, 0, 0, 0, 1},
		{0x12, 0x34, 0, 1, 0, 6, 17, 3, 0, 0, 0, 1},
		{0x12, 0x34, 0, 0, 1, 6, 17, 3, 0, 0, 0, 1},
	} {
		was := bytes.Clone(b)
		for n := range len(b) + 1 {
			head.Get(b[:n])
			if !bytes.Equal(b, was) {
				t.Fatalf("Get of %d bytes made %v of %v", n, b, was)
			}
		}
	}
}
