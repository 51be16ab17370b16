package ring_test

import (
	"bytes"
	"math"
	"testing"

	"busbar/api"
	"busbar/ring"
)

// pair is a ring, and what the chapter says that waits in it, kept as a plain list.
type pair struct {
	t     *testing.T
	ring  *ring.Ring
	most  int
	waits []byte
	next  byte // the byte that is put next
}

func newPair(t *testing.T, most, clamped int) *pair {
	p := &pair{t: t, ring: ring.New(most), most: clamped, next: 1}
	p.check("New", most)
	return p
}

// check holds all that the ring tells, without a change, against the list.
func (p *pair) check(call string, n int) {
	p.t.Helper()
	if got := p.ring.Len(); got != len(p.waits) {
		p.t.Fatalf("%s(%d): Len = %d, want %d", call, n, got, len(p.waits))
	}
	if got := p.ring.Room(); got != p.most-len(p.waits) {
		p.t.Fatalf("%s(%d): Room = %d, want %d", call, n, got, p.most-len(p.waits))
	}
	if got := p.ring.Look(math.MaxInt); !bytes.Equal(got, p.waits) {
		p.t.Fatalf("%s(%d): %v waits, want %v", call, n, got, p.waits)
	}
}

// fresh is n bytes that differ from those ahead of them.
func (p *pair) fresh(n int) []byte {
	b := make([]byte, n)
	for i := range b {
		b[i] = p.next
		p.next++
	}
	return b
}

func (p *pair) put(n int) {
	p.t.Helper()
	b := p.fresh(n)
	want := min(n, p.most-len(p.waits))
	if got := p.ring.Put(b); got != want {
		p.t.Fatalf("Put of %d = %d, want %d", n, got, want)
	}
	p.waits = append(p.waits, b[:want]...)
	p.check("Put", n)
}

// head is the first n bytes that wait, or all, or none.
func (p *pair) head(n int) []byte {
	return p.waits[:max(0, min(n, len(p.waits)))]
}

func (p *pair) look(n int) {
	p.t.Helper()
	if got := p.ring.Look(n); !bytes.Equal(got, p.head(n)) {
		p.t.Fatalf("Look(%d) = %v, want %v", n, got, p.head(n))
	}
	p.check("Look", n)
}

func (p *pair) take(n int) {
	p.t.Helper()
	want := p.head(n)
	if got := p.ring.Take(n); !bytes.Equal(got, want) {
		p.t.Fatalf("Take(%d) = %v, want %v", n, got, want)
	}
	p.waits = p.waits[len(want):]
	p.check("Take", n)
}

// at is a ring for most bytes of which the first waiting one stands behind as many as gone, and so many wait.
func at(t *testing.T, most, gone, waits int) *pair {
	t.Helper()
	p := newPair(t, most, most)
	p.put(gone)
	p.take(gone)
	p.put(waits)
	return p
}

// everyRing calls do with small rings in every state that they may be in.
func everyRing(t *testing.T, do func(most int, fresh func() *pair)) {
	t.Helper()
	for most := range 6 {
		for gone := range most + 1 {
			for waits := range most + 1 {
				do(most, func() *pair { return at(t, most, gone, waits) })
			}
		}
	}
}

// numbers are those around 0 to most, and the ends of all numbers.
func numbers(most int) []int {
	ns := []int{math.MinInt, math.MinInt + 1, -1 << 32, -65537, -65536, -2, -1,
		65535, 65536, 65537, 1 << 31, 1<<32 + 1, math.MaxInt - 1, math.MaxInt}
	for n := range 2*most + 3 {
		ns = append(ns, n)
	}
	return ns
}

// Promise 9.1.

func TestExample(t *testing.T) {
	r := ring.New(3)
	if n := r.Put([]byte{1, 2, 3, 4}); n != 3 {
		t.Error(n)
	}
	if b := r.Take(2); !bytes.Equal(b, []byte{1, 2}) {
		t.Error(b)
	}
	if n := r.Put([]byte{5}); n != 1 {
		t.Error(n)
	}
	if b := r.Look(3); !bytes.Equal(b, []byte{3, 5}) {
		t.Error(b)
	}
}

func TestNew(t *testing.T) {
	for most := range 300 {
		p := newPair(t, most, most)
		p.put(most + 1)
		p.put(1)
		p.take(most + 1)
	}
	for _, most := range []int{1000, 32767, 32768, 65534, 65535, 65536} {
		p := newPair(t, most, most)
		p.put(70000)
		p.put(1)
		p.take(70000)
	}
}

func TestNewClamps(t *testing.T) {
	for _, most := range []int{65537, 65538, 70000, 1 << 31, 1 << 32, 1<<32 + 1, math.MaxInt - 1, math.MaxInt} {
		p := newPair(t, most, api.MaxQueue)
		p.put(70000)
		p.put(1)
		p.take(70000)
	}
	for _, most := range []int{-1, -2, -65536, -1 << 31, -1<<32 + 1, math.MinInt + 1, math.MinInt} {
		p := newPair(t, most, 0)
		p.put(3)
		p.look(3)
		p.take(3)
	}
}

func TestPut(t *testing.T) {
	everyRing(t, func(most int, fresh func() *pair) {
		for n := range 2*most + 3 {
			fresh().put(n)
		}
	})
}

func TestPutOfNothing(t *testing.T) {
	for _, most := range []int{0, 1, 3} {
		r := ring.New(most)
		if n := r.Put(nil); n != 0 || r.Len() != 0 || r.Room() != most {
			t.Error(most, n, r.Len(), r.Room())
		}
		r.Put([]byte{1, 2, 3})
		if n := r.Put([]byte{}); n != 0 || r.Len() != most || r.Room() != 0 {
			t.Error(most, n, r.Len(), r.Room())
		}
	}
}

// A Put that is cut short takes the first bytes, and drops none that waited.
func TestPutOfTooMany(t *testing.T) {
	r := ring.New(4)
	for _, c := range []struct {
		put  []byte
		n    int
		want []byte
	}{
		{[]byte{1, 2, 3}, 3, []byte{1, 2, 3}},
		{[]byte{4, 5, 6}, 1, []byte{1, 2, 3, 4}},
		{[]byte{7}, 0, []byte{1, 2, 3, 4}},
		{make([]byte, 1<<20), 0, []byte{1, 2, 3, 4}},
	} {
		if n := r.Put(c.put); n != c.n || !bytes.Equal(r.Look(9), c.want) {
			t.Errorf("Put of %d bytes = %d, and %v waits; want %d, %v", len(c.put), n, r.Look(9), c.n, c.want)
		}
	}
}

func TestLook(t *testing.T) {
	everyRing(t, func(most int, fresh func() *pair) {
		for _, n := range numbers(most) {
			p := fresh()
			p.look(n)
			p.look(n)
		}
	})
}

func TestTake(t *testing.T) {
	everyRing(t, func(most int, fresh func() *pair) {
		for _, n := range numbers(most) {
			p := fresh()
			p.take(n)
			p.take(n)
			p.put(most + 1) // the places that became free are there again, and no more
			p.take(most + 1)
		}
	})
}

// All ways of four calls, one after the other, from every state.
func TestCallsInEveryOrder(t *testing.T) {
	everyRing(t, func(most int, fresh func() *pair) {
		if most > 3 {
			return
		}
		kinds := 2 * (most + 2)
		for way := range kinds * kinds * kinds * kinds {
			p := fresh()
			for range 4 {
				kind := way % kinds
				way /= kinds
				if kind%2 == 0 {
					p.put(kind / 2)
				} else {
					p.take(kind / 2)
				}
			}
		}
	})
}

func TestLargeRings(t *testing.T) {
	for _, most := range []int{255, 256, 257, 260, 65535, 65536} {
		p := newPair(t, most, most)
		for i := range 200 {
			p.put(most * (i % 7) / 6)
			p.look(most * (i % 5) / 4)
			p.take(most*(i%11)/10 + i%3)
		}
	}
}

func TestEveryPlaceOfTheLargestRing(t *testing.T) {
	r := ring.New(api.MaxQueue)
	for i := range 3 * api.MaxQueue {
		b := []byte{byte(i), byte(i >> 8), byte(i >> 16)}
		if n := r.Put(b); n != 3 {
			t.Fatal(i, n)
		}
		if got := r.Take(3); !bytes.Equal(got, b) || r.Len() != 0 || r.Room() != api.MaxQueue {
			t.Fatal(i, got, r.Len(), r.Room())
		}
	}
}

// A ring that New did not make has no places, and no call of it panics.
func TestRingWithoutPlaces(t *testing.T) {
	for _, r := range []*ring.Ring{ring.New(0), new(ring.Ring)} {
		for range 3 {
			if n := r.Put([]byte{1, 2}); n != 0 || r.Len() != 0 || r.Room() != 0 {
				t.Error(n, r.Len(), r.Room())
			}
			for _, n := range numbers(1) {
				if a, b := r.Look(n), r.Take(n); len(a) != 0 || len(b) != 0 {
					t.Error(n, a, b)
				}
			}
		}
	}
}

// What goes in and comes out is nobody else's.

// spoil overwrites b and the spare capacity behind it.
func spoil(b []byte) {
	b = b[:cap(b)]
	for i := range b {
		b[i] = 0xEE
	}
}

func TestPutLeavesTheBytes(t *testing.T) {
	everyRing(t, func(most int, fresh func() *pair) {
		for n := range most + 3 {
			p := fresh()
			all := append(p.fresh(n), bytes.Repeat([]byte{0xA5}, 20)...)
			was := bytes.Clone(all)
			taken := p.ring.Put(all[:n])
			p.waits = append(p.waits, all[:taken]...)
			p.put(1)
			p.look(most)
			if !bytes.Equal(all, was) {
				t.Fatalf("%v became %v", was, all)
			}
			spoil(all)
			p.check("Put", n)
			p.take(most)
		}
	})
}

func TestResultsAreNewMemory(t *testing.T) {
	everyRing(t, func(most int, fresh func() *pair) {
		for n := range most + 2 {
			p := fresh()
			spoil(p.ring.Look(n))
			p.check("Look", n)
			looked := p.ring.Look(n)
			again := p.ring.Look(n)
			head := bytes.Clone(p.head(n))
			spoil(again)
			taken := p.ring.Take(n)
			p.waits = p.waits[len(head):]
			p.put(most)
			p.take(most)
			p.put(most)
			if !bytes.Equal(looked, head) || !bytes.Equal(taken, head) {
				t.Fatalf("Look(%d) = %v and Take(%d) = %v became others than %v", n, looked, n, taken, head)
			}
			spoil(looked)
			spoil(taken)
			p.check("Take", n)
		}
	})
}

func TestRingsAreTheirOwn(t *testing.T) {
	a, b := newPair(t, 4, 4), newPair(t, 4, 4)
	for i := range 50 {
		a.put(i % 3)
		b.put(i % 5)
		a.take(i % 4)
		b.take(i % 3)
		a.check("other", i)
		b.check("other", i)
	}
}

// Promise 9.2.

// flows puts stream into a ring in pieces of in, takes pieces of out, and answers all that was taken.
func flows(t *testing.T, stream []byte, most, in, out int) []byte {
	t.Helper()
	r := ring.New(most)
	var got []byte
	for put := 0; put < len(stream) || r.Len() > 0; {
		put += r.Put(stream[put:min(put+in, len(stream))])
		if r.Len() > most || r.Room() < 0 || r.Len()+r.Room() != most {
			t.Fatalf("a ring for %d bytes: Len = %d, Room = %d", most, r.Len(), r.Room())
		}
		got = append(got, r.Take(out)...)
		if len(got)+r.Len() != put {
			t.Fatalf("%d bytes were put, %d taken, and %d wait", put, len(got), r.Len())
		}
	}
	return got
}

// W3: however the bytes are divided, they are the same bytes, in order. W5: a queue never exceeds its limit.
func TestBytesComeOutAsTheyWere(t *testing.T) {
	stream := make([]byte, 5000)
	for i := range stream {
		stream[i] = byte(i*i/7 + i)
	}
	sizes := []int{1, 2, 3, 7, 12, 13, 259, 260, 261, 4999, 5000, 70000}
	for _, most := range []int{1, 2, 3, 7, 13, 260, 4096, 65536} {
		for _, in := range sizes {
			for _, out := range sizes {
				if got := flows(t, stream, most, in, out); !bytes.Equal(got, stream) {
					t.Errorf("a ring for %d bytes, put in pieces of %d, taken in pieces of %d: other bytes", most, in, out)
				}
			}
		}
	}
}
