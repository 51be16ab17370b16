package pdu_test

import (
	"bytes"
	"math"
	"slices"
	"testing"

	"busbar/pdu"
)

func TestPut(t *testing.T) {
	if b := pdu.Put([]byte{3}, 0, 258, 65535); !bytes.Equal(b, []byte{3, 0, 0, 1, 2, 255, 255}) {
		t.Error(b)
	}
	if b := pdu.Put([]byte{3}); !bytes.Equal(b, []byte{3}) {
		t.Error(b)
	}
}

func TestPutList(t *testing.T) {
	if b := pdu.PutList([]byte{3}, []byte{7, 8, 9}); !bytes.Equal(b, []byte{3, 3, 7, 8, 9}) {
		t.Error(b)
	}
	if b := pdu.PutList([]byte{3}, nil); !bytes.Equal(b, []byte{3, 0}) {
		t.Error(b)
	}
	if b := pdu.PutList(nil, make([]byte, 250)); len(b) != 251 || b[0] != 250 {
		t.Error(b)
	}
}

func TestPackAndUnpack(t *testing.T) {
	for n := range 126 {
		ws := make([]uint16, n)
		for i := range ws {
			ws[i] = uint16(i*601 + 255)
		}
		b := pdu.Pack(ws)
		if got, ok := pdu.Unpack(b, n); len(b) != 2*n || !slices.Equal(got, ws) || !ok {
			t.Errorf("%v: %v; %v %v", ws, b, got, ok)
		}
	}
	if b := pdu.Pack([]uint16{258, 0xfffe}); !bytes.Equal(b, []byte{1, 2, 255, 254}) {
		t.Error(b)
	}
	for _, n := range []int{math.MinInt, math.MinInt + 2, -1, 0, 1, 3, 4, 1<<62 + 2, 1<<63 - 2, math.MaxInt} {
		if got, ok := pdu.Unpack([]byte{1, 2, 3, 4}, n); len(got) != 0 || ok {
			t.Errorf("four bytes, %d: %v", n, got)
		}
	}
	for _, n := range []int{0, 1, 2, 3} {
		if got, ok := pdu.Unpack([]byte{1, 2, 3}, n); len(got) != 0 || ok {
			t.Errorf("three bytes, %d: %v", n, got)
		}
	}
}

func TestNumber(t *testing.T) {
	b := []byte{1, 2, 3}
	for at, want := range map[int]int{math.MinInt: 0, -1: 0, 0: 258, 1: 515, 2: 0, 3: 0, math.MaxInt: 0} {
		if got := pdu.Number(b, at); got != want {
			t.Errorf("at %d: %d, want %d", at, got, want)
		}
	}
}

func TestCoil(t *testing.T) {
	for w := -2; w < 1<<17; w++ {
		v, ok := pdu.Coil(w)
		if want := w == 0xff00; ok != (want || w == 0) || (v == 1) != want || v > 1 {
			t.Errorf("%d: %d %v", w, v, ok)
		}
	}
}

func TestBounds(t *testing.T) {
	for _, n := range []int{math.MinInt, math.MinInt32, -1 << 32, -65536, -256, -1, 0, 1, 2, 254, 255, 256, 257,
		65534, 65535, 65536, 65537, 1 << 31, 1 << 32, 1<<32 + 1, math.MaxInt} {
		if got := pdu.IsByte(n); got != (0 <= n && n <= 255) {
			t.Errorf("IsByte(%d) = %v", n, got)
		}
		if got := pdu.IsWord(n); got != (0 <= n && n <= 65535) {
			t.Errorf("IsWord(%d) = %v", n, got)
		}
		if got := pdu.Within(n, 255); got != (1 <= n && n <= 255) {
			t.Errorf("Within(%d, 255) = %v", n, got)
		}
		if pdu.Within(n, 0) {
			t.Errorf("Within(%d, 0)", n)
		}
	}
}
