package adu_test

import (
	"bytes"
	"math"
	"testing"

	"busbar/adu"
	"busbar/api"
	"busbar/head"
)

// pdu is n bytes that differ from their neighbours.
func pdu(n int) []byte {
	b := make([]byte, n)
	for i := range b {
		b[i] = byte(i*7 + n)
	}
	return b
}

// bytesOf writes a frame down as the chapter says it, without the package.
func bytesOf(f adu.Frame) []byte {
	n := len(f.Pdu) + 1
	b := []byte{byte(f.Trans / 256), byte(f.Trans % 256), 0, 0, byte(n / 256), byte(n % 256), byte(f.Unit)}
	return append(b, f.Pdu...)
}

func same(a, b adu.Frame) bool {
	return a.Trans == b.Trans && a.Unit == b.Unit && bytes.Equal(a.Pdu, b.Pdu)
}

// frames are frames of every length, and with numbers of all sizes.
func frames() []adu.Frame {
	fs := []adu.Frame{
		{Trans: 1, Unit: 17, Pdu: []byte{3, 0, 0, 0, 1}},
		{Trans: 0, Unit: 0, Pdu: []byte{0}},
		{Trans: 65535, Unit: 255, Pdu: bytes.Repeat([]byte{255}, 253)},
		{Trans: 0x1234, Unit: 0x56, Pdu: []byte{0x78}},
		// The Pdu looks like a frame, or like the beginning of one, or like none.
		{Trans: 2, Unit: 3, Pdu: []byte{0, 9, 0, 0, 0, 2, 1, 7}},
		{Trans: 4, Unit: 5, Pdu: []byte{0, 9, 0, 0, 0, 200, 1}},
		{Trans: 6, Unit: 7, Pdu: []byte{9, 9, 9, 9, 9, 9, 9}},
	}
	for n := 1; n <= 253; n++ {
		fs = append(fs, adu.Frame{Trans: n * 259 % 65536, Unit: 255 - n, Pdu: pdu(n)})
	}
	return fs
}

// spoil overwrites b and the spare capacity behind it.
func spoil(b []byte) {
	b = b[:cap(b)]
	for i := range b {
		b[i] = 0xEE
	}
}

// roomy is b with room behind it, which belongs to the caller, and all of both as it is.
func roomy(b []byte) (mine, all, was []byte) {
	all = append(bytes.Clone(b), bytes.Repeat([]byte{0xA5}, 300)...)
	return all[:len(b)], all, bytes.Clone(all)
}

// Promise 8.1.

func gives(t *testing.T, f adu.Frame, want []byte) {
	t.Helper()
	if b, e := adu.Bytes(f); !bytes.Equal(b, want) || e != api.OK {
		t.Errorf("Bytes(%v) = %v, %d; want %v", f, b, e, want)
	}
}

func refused(t *testing.T, f adu.Frame) {
	t.Helper()
	if b, e := adu.Bytes(f); len(b) != 0 || e != api.ErrArg {
		t.Errorf("Bytes(%d, %d, %d bytes) = %v, %d; want ErrArg", f.Trans, f.Unit, len(f.Pdu), b, e)
	}
}

func TestBytes(t *testing.T) {
	gives(t, adu.Frame{Trans: 1, Unit: 17, Pdu: []byte{3, 0, 0, 0, 1}}, []byte{0, 1, 0, 0, 0, 6, 17, 3, 0, 0, 0, 1})
	gives(t, adu.Frame{Trans: 0x1234, Unit: 0x56, Pdu: []byte{0x78}}, []byte{0x12, 0x34, 0, 0, 0, 2, 0x56, 0x78})
	gives(t, adu.Frame{Pdu: []byte{0}}, []byte{0, 0, 0, 0, 0, 2, 0, 0})
	gives(t, adu.Frame{Trans: 65535, Unit: 255, Pdu: []byte{7}}, []byte{255, 255, 0, 0, 0, 2, 255, 7})
	gives(t, adu.Frame{Pdu: make([]byte, 253)}, append([]byte{0, 0, 0, 0, 0, 254, 0}, make([]byte, 253)...))
	for _, f := range frames() {
		gives(t, f, bytesOf(f))
	}
}

func TestBytesOfEveryNumber(t *testing.T) {
	for n := range 65536 {
		f := adu.Frame{Trans: n, Unit: 17, Pdu: []byte{3, 1}}
		gives(t, f, bytesOf(f))
	}
	for n := range 256 {
		f := adu.Frame{Trans: 1, Unit: n, Pdu: []byte{3, 1}}
		gives(t, f, bytesOf(f))
	}
}

func TestBytesOfNumbersThatAreNone(t *testing.T) {
	ends := []int{math.MinInt, math.MinInt + 1, math.MinInt32, -1 << 32, -65536, -65535, -256, -255, -2, -1,
		65536, 65537, 1 << 31, 1<<32 + 1, math.MaxInt - 1, math.MaxInt}
	for _, p := range [][]byte{{3}, {3, 0, 0, 0, 1}, make([]byte, 253), nil, make([]byte, 254)} {
		for _, n := range ends {
			refused(t, adu.Frame{Trans: n, Unit: 17, Pdu: p})
			refused(t, adu.Frame{Trans: n, Unit: n, Pdu: p})
		}
		for _, n := range append([]int{256, 257, 65535}, ends...) {
			refused(t, adu.Frame{Trans: 1, Unit: n, Pdu: p})
		}
	}
}

func TestBytesOfPdusThatAreNone(t *testing.T) {
	refused(t, adu.Frame{})
	refused(t, adu.Frame{Trans: 1, Unit: 17})
	refused(t, adu.Frame{Trans: 1, Unit: 17, Pdu: []byte{}})
	// 256 and 65536 bytes more than a length that may be.
	for _, n := range []int{254, 255, 256, 257, 258, 509, 510, 65535, 65536, 65537, 65541, 1 << 20} {
		refused(t, adu.Frame{Trans: 1, Unit: 17, Pdu: make([]byte, n)})
	}
}

func TestBytesLeavesTheFrame(t *testing.T) {
	for _, f := range frames() {
		mine, all, was := roomy(f.Pdu)
		first, _ := adu.Bytes(adu.Frame{Trans: f.Trans, Unit: f.Unit, Pdu: mine})
		second, _ := adu.Bytes(adu.Frame{Trans: f.Trans, Unit: f.Unit, Pdu: mine})
		spoil(first)
		if !bytes.Equal(all, was) || !bytes.Equal(second, bytesOf(f)) {
			t.Fatalf("%v: something changed with the result", f)
		}
		spoil(mine)
		if !bytes.Equal(second, bytesOf(f)) {
			t.Fatalf("%v: the result changed with the Pdu", f)
		}
	}
}

// Promise 8.2.

func cuts(t *testing.T, b []byte, want adu.Frame) {
	t.Helper()
	if f, n, e := adu.Cut(b); !same(f, want) || n != 7+len(want.Pdu) || e != api.OK {
		t.Errorf("Cut(%v) = %v, %d, %d; want %v", b, f, n, e, want)
	}
}

func fails(t *testing.T, b []byte, want api.Errno) {
	t.Helper()
	if f, n, e := adu.Cut(b); !same(f, adu.Frame{}) || n != 0 || e != want {
		t.Errorf("Cut(%v) = %v, %d, %d; want %d", b, f, n, e, want)
	}
}

func TestCut(t *testing.T) {
	cuts(t, []byte{0, 1, 0, 0, 0, 6, 17, 3, 0, 0, 0, 1}, adu.Frame{Trans: 1, Unit: 17, Pdu: []byte{3, 0, 0, 0, 1}})
	for _, f := range frames() {
		// What follows the first frame, whatever it is, is no part of it.
		for _, more := range [][]byte{nil, {0}, {9, 9, 9, 9, 9, 9, 9}, bytesOf(f), make([]byte, 600)} {
			cuts(t, append(bytesOf(f), more...), f)
		}
	}
}

func TestCutOfEveryNumber(t *testing.T) {
	for n := range 65536 {
		f := adu.Frame{Trans: n, Unit: 17, Pdu: []byte{3, 1}}
		cuts(t, bytesOf(f), f)
	}
	for n := range 256 {
		f := adu.Frame{Trans: 1, Unit: n, Pdu: []byte{3, 1}}
		cuts(t, bytesOf(f), f)
	}
}

func TestCutOfTooFew(t *testing.T) {
	fails(t, nil, api.ErrMore)
	fails(t, []byte{}, api.ErrMore)
	for _, f := range frames() {
		b := bytesOf(f)
		for n := range b {
			fails(t, b[:n], api.ErrMore) // what stands behind the n bytes is no part of them
			fails(t, bytes.Clone(b[:n]), api.ErrMore)
		}
	}
}

func TestCutOfWrongForm(t *testing.T) {
	for _, b := range [][]byte{
		{0, 1, 0, 1, 0, 6},
		{0, 1, 1, 0, 0, 6},
		{0, 1, 255, 255, 0, 6},
		{0, 1, 0, 0, 0, 0},
		{0, 1, 0, 0, 0, 1},
		{0, 1, 0, 0, 0, 255},
		{0, 1, 0, 0, 1, 0},
		{0, 1, 0, 0, 1, 6},
		{0, 1, 0, 0, 255, 255},
		{0, 1, 0, 2, 0, 1},
	} {
		// Below six bytes, a form is not told of; from there on, it is, however much of the Pdu is there.
		for n := range 6 {
			fails(t, b[:n], api.ErrMore)
		}
		for _, n := range []int{0, 1, 2, 3, 6, 253, 254, 255, 600} {
			fails(t, append(bytes.Clone(b), make([]byte, n)...), api.ErrForm)
		}
	}
}

func TestCutOfEveryProtocolAndLength(t *testing.T) {
	rest := pdu(300)
	for n := 1; n <= 65535; n++ {
		fails(t, []byte{0, 1, byte(n >> 8), byte(n), 0, 3, 17, 3, 1}, api.ErrForm)
	}
	for n := range 65536 {
		b := append([]byte{0, 1, 0, 0, byte(n >> 8), byte(n), 17}, rest...)
		if n < 2 || n > 254 {
			fails(t, b, api.ErrForm)
			fails(t, b[:6], api.ErrForm)
			fails(t, b[:7], api.ErrForm)
			continue
		}
		cuts(t, b, adu.Frame{Trans: 1, Unit: 17, Pdu: rest[:n-1]})
		cuts(t, b[:n+6], adu.Frame{Trans: 1, Unit: 17, Pdu: rest[:n-1]})
		fails(t, b[:n+5], api.ErrMore)
		fails(t, b[:7], api.ErrMore)
		fails(t, b[:6], api.ErrMore)
	}
}

// The errors of a header are those of head.Get, whatever the bytes are.
func TestCutHasTheErrorsOfTheHeader(t *testing.T) {
	for i := range 1 << 12 {
		b := []byte{0, 1, byte(i & 1), byte(i >> 1 & 1), byte(i >> 2 & 1), byte(i >> 3), 17, 3, 1}
		for n := range len(b) + 1 {
			if _, want := head.Get(b[:n]); want != api.OK {
				fails(t, b[:n], want)
			}
		}
	}
}

func TestCutLeavesTheBytes(t *testing.T) {
	for _, f := range frames() {
		for _, more := range [][]byte{nil, {0, 1, 2}} {
			mine, all, was := roomy(append(bytesOf(f), more...))
			first, _, _ := adu.Cut(mine)
			second, _, _ := adu.Cut(mine)
			spoil(first.Pdu)
			if !bytes.Equal(all, was) || !same(second, f) {
				t.Fatalf("%v: something changed with the result", f)
			}
			spoil(mine)
			if !same(second, f) {
				t.Fatalf("%v: the result changed with the bytes", f)
			}
		}
	}
	for _, b := range [][]byte{nil, {0, 1}, {0, 1, 0, 0, 0, 6}, {0, 1, 0, 1, 0, 6, 17}, {0, 1, 0, 0, 0, 6, 17, 3}} {
		mine, all, was := roomy(b)
		adu.Cut(mine)
		if !bytes.Equal(all, was) {
			t.Errorf("%v became %v", was, all)
		}
	}
}

// Promise 8.3.

// follow cuts the frames fs off b, one after the other, and answers what is left.
func follow(t *testing.T, b []byte, fs []adu.Frame) []byte {
	t.Helper()
	for i, want := range fs {
		f, n, e := adu.Cut(b)
		if !same(f, want) || n != 7+len(want.Pdu) || e != api.OK {
			t.Fatalf("frame %d: %v, %d, %d; want %v", i, f, n, e, want)
		}
		b = b[n:]
	}
	return b
}

func TestFramesAreCutAsTheyWere(t *testing.T) {
	fs := frames()
	var all []byte
	for _, f := range fs {
		b, e := adu.Bytes(f)
		if e != api.OK {
			t.Fatal(f, e)
		}
		all = append(all, b...)
	}
	if rest := follow(t, all, fs); len(rest) != 0 {
		t.Errorf("%v is left", rest)
	}
	fails(t, all[len(all):], api.ErrMore)
	// A header that is wrong comes to light behind the frames ahead of it, and no sooner.
	fails(t, follow(t, append(bytes.Clone(all), 0, 1, 0, 1, 0, 6, 17, 3), fs), api.ErrForm)
	fails(t, follow(t, append(bytes.Clone(all), 0, 1, 0, 0, 0, 6, 17, 3), fs), api.ErrMore)
}

// However the bytes come, a frame is cut when its last byte is there, and no sooner.
func TestFramesInPieces(t *testing.T) {
	fs := frames()
	var all []byte
	for _, f := range fs {
		all = append(all, bytesOf(f)...)
	}
	for _, piece := range []int{1, 2, 3, 5, 6, 7, 8, 13, 100, 260, 261, 4096} {
		var waiting []byte
		cut := 0
		for at := 0; at < len(all); at += piece {
			waiting = append(waiting, all[at:min(at+piece, len(all))]...)
			for {
				f, n, e := adu.Cut(waiting)
				if e == api.ErrMore {
					break
				}
				if e != api.OK || cut == len(fs) || !same(f, fs[cut]) {
					t.Fatalf("pieces of %d, frame %d: %v, %d, %d", piece, cut, f, n, e)
				}
				waiting = waiting[n:]
				cut++
			}
		}
		if cut != len(fs) || len(waiting) != 0 {
			t.Errorf("pieces of %d: %d frames, and %v is left", piece, cut, waiting)
		}
	}
}
