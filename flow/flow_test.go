package flow_test

import (
	"bytes"
	"math"
	"testing"

	"busbar/adu"
	"busbar/api"
	"busbar/flow"
)

// pair is a flow, and what the chapter says that waits in it, kept as a plain list.
type pair struct {
	t     *testing.T
	flow  *flow.Flow
	room  int
	waits []byte
	bad   bool
}

func newPair(t *testing.T, most, clamped int) *pair {
	t.Helper()
	p := &pair{t: t, flow: flow.New(most), room: clamped}
	p.check("New")
	return p
}

// wanted is what Next is to answer, and how many bytes are to go with it.
func (p *pair) wanted() (adu.Frame, int, api.Errno) {
	if p.bad {
		return adu.Frame{}, 0, api.ErrForm
	}
	return adu.Cut(p.waits)
}

// check holds all that the flow tells, without a change, against the list.
func (p *pair) check(call string) {
	p.t.Helper()
	_, _, e := p.wanted()
	for range 2 {
		held, bad, ready := p.flow.Held(), p.flow.Bad(), p.flow.Ready()
		if held != len(p.waits) || bad != p.bad || ready != (e != api.ErrMore) {
			p.t.Fatalf("%s: Held = %d, Bad = %t, Ready = %t; want %d, %t, %t",
				call, held, bad, ready, len(p.waits), p.bad, e != api.ErrMore)
		}
	}
}

func (p *pair) feed(b []byte) int {
	p.t.Helper()
	want := min(len(b), p.room-len(p.waits))
	if p.bad {
		want = 0
	}
	if got := p.flow.Feed(b); got != want {
		p.t.Fatalf("Feed of %d bytes = %d, want %d", len(b), got, want)
	}
	p.waits = append(p.waits, b[:want]...)
	p.check("Feed")
	return want
}

func (p *pair) next() (adu.Frame, api.Errno) {
	p.t.Helper()
	want, size, e := p.wanted()
	got, gotE := p.flow.Next()
	if !same(got, want) || gotE != e {
		p.t.Fatalf("Next = %v, %d; want %v, %d", got, gotE, want, e)
	}
	p.waits = p.waits[size:]
	if e == api.ErrForm {
		p.waits, p.bad = nil, true
	}
	p.check("Next")
	return got, e
}

func (p *pair) gives(want adu.Frame) {
	p.t.Helper()
	if f, e := p.next(); !same(f, want) || e != api.OK {
		p.t.Fatalf("Next = %v, %d; want %v", f, e, want)
	}
}

func (p *pair) fails(want api.Errno) {
	p.t.Helper()
	if f, e := p.next(); !same(f, adu.Frame{}) || e != want {
		p.t.Fatalf("Next = %v, %d; want %d", f, e, want)
	}
}

func same(a, b adu.Frame) bool {
	return a.Trans == b.Trans && a.Unit == b.Unit && bytes.Equal(a.Pdu, b.Pdu)
}

// bytesOf writes frames down as chapter 8 says it, without its package.
func bytesOf(fs ...adu.Frame) []byte {
	var b []byte
	for _, f := range fs {
		n := len(f.Pdu) + 1
		b = append(b, byte(f.Trans/256), byte(f.Trans%256), 0, 0, byte(n/256), byte(n%256), byte(f.Unit))
		b = append(b, f.Pdu...)
	}
	return b
}

// sized is a frame with a Pdu of n bytes, which differ from their neighbours.
func sized(n int) adu.Frame {
	b := make([]byte, n)
	for i := range b {
		b[i] = byte(i*7 + n)
	}
	return adu.Frame{Trans: n * 259 % 65536, Unit: 255 - n, Pdu: b}
}

// frames are frames of every length, and some whose Pdu looks like a header.
func frames() []adu.Frame {
	fs := []adu.Frame{
		{Trans: 0, Unit: 0, Pdu: []byte{0}},
		{Trans: 65535, Unit: 255, Pdu: bytes.Repeat([]byte{255}, 253)},
		{Trans: 2, Unit: 3, Pdu: []byte{0, 9, 0, 0, 0, 2, 1, 7}},
		{Trans: 4, Unit: 5, Pdu: []byte{0, 9, 0, 1, 0, 2, 1}},
		{Trans: 1, Unit: 17, Pdu: []byte{3, 0, 0, 0, 1}},
	}
	for n := 1; n <= 253; n++ {
		fs = append(fs, sized(n))
	}
	return fs
}

// wrong are headers of a form that may not be.
func wrong() [][]byte {
	return [][]byte{
		{0, 1, 0, 1, 0, 6},
		{0, 1, 1, 0, 0, 6},
		{0, 1, 255, 255, 0, 6},
		{0, 1, 0, 0, 0, 0},
		{0, 1, 0, 0, 0, 1},
		{0, 1, 0, 0, 0, 255},
		{0, 1, 0, 0, 1, 0},
		{0, 1, 0, 0, 1, 6},
		{0, 1, 0, 0, 255, 255},
		{255, 255, 255, 255, 255, 255},
	}
}

// Promise 10.1.

func TestExample(t *testing.T) {
	p := newPair(t, 0, 260)
	p.feed([]byte{0, 1, 0, 0})
	p.fails(api.ErrMore)
	p.feed([]byte{0, 2, 9, 7})
	p.gives(adu.Frame{Trans: 1, Unit: 9, Pdu: []byte{7}})
	p.fails(api.ErrMore)
}

func TestNew(t *testing.T) {
	for most := range 600 {
		p := newPair(t, most, max(most, 260))
		p.fails(api.ErrMore)
		p.feed(make([]byte, 259))
		p.feed(make([]byte, 1000))
	}
	for _, most := range []int{1000, 32767, 32768, 65534, 65535, 65536} {
		p := newPair(t, most, most)
		p.feed(make([]byte, 70000))
		p.feed([]byte{1})
	}
}

func TestNewClamps(t *testing.T) {
	for _, most := range []int{-1, -2, -260, -65536, -1 << 31, -1<<32 + 300, math.MinInt + 1, math.MinInt} {
		newPair(t, most, 260).feed(make([]byte, 70000))
	}
	for _, most := range []int{65537, 65538, 70000, 1 << 31, 1 << 32, 1<<32 + 1, 1<<32 + 300, math.MaxInt - 1, math.MaxInt} {
		newPair(t, most, 65536).feed(make([]byte, 70000))
	}
}

// A Feed that is cut short takes the first bytes, and drops none that waited.
func TestFeed(t *testing.T) {
	all := bytesOf(sized(200), sized(100), sized(30))
	for first := range 301 {
		for second := 0; second <= 300; second += 10 {
			p := newPair(t, 300, 300)
			taken := p.feed(all[:first])
			taken += p.feed(all[taken:min(taken+second, len(all))])
			p.feed(nil)
			p.feed([]byte{})
			taken += p.feed(all[taken:])
			p.gives(sized(200))
			p.feed(all[taken:])
			p.gives(sized(100))
			p.gives(sized(30))
		}
	}
}

func TestFeedOfTooMany(t *testing.T) {
	p := newPair(t, 0, 260)
	p.feed(bytesOf(sized(253))[:259])
	for range 2 {
		p.fails(api.ErrMore)
	}
	p.feed(append([]byte{42}, make([]byte, 1<<20)...))
	want := sized(253)
	want.Pdu[252] = 42
	p.feed([]byte{1})
	p.gives(want)
	p.feed(make([]byte, 261))
}

// Every length of frames in small room: what a Next removes is room again, and no more.
func TestRoomComesBack(t *testing.T) {
	for _, most := range []int{260, 261, 263, 519, 520, 4096} {
		p := newPair(t, most, most)
		rest := bytesOf(frames()...)
		for _, f := range frames() {
			rest = rest[p.feed(rest):]
			p.gives(f)
		}
		p.fails(api.ErrMore)
		p.feed(make([]byte, most+1))
	}
}

// Promise 10.2.

func TestNext(t *testing.T) {
	for _, f := range frames() {
		for _, more := range [][]byte{nil, {0}, {0, 1, 0, 0, 0}, {0, 1, 0, 1, 0, 6}, bytesOf(f)} {
			p := newPair(t, 600, 600)
			p.feed(append(bytesOf(f), more...))
			p.gives(f)
			p.next()
			p.next()
		}
	}
}

func TestNextOfEveryNumber(t *testing.T) {
	p := newPair(t, 65536, 65536)
	for n := range 65536 {
		f := adu.Frame{Trans: n, Unit: n % 256, Pdu: []byte{byte(n)}}
		p.feed(bytesOf(f))
		p.gives(f)
	}
	p.fails(api.ErrMore)
}

// ErrMore changes nothing, however often it is told: with the last byte the frame is there.
func TestNextOfTooFew(t *testing.T) {
	for _, f := range frames() {
		b := bytesOf(f)
		p := newPair(t, 0, 260)
		for i := range b {
			p.fails(api.ErrMore)
			p.fails(api.ErrMore)
			p.feed(b[i : i+1])
		}
		p.gives(f)
		p.fails(api.ErrMore)
	}
}

// A wrong header is told of from its sixth byte on, and not before the frames ahead of it are gone.
func TestNextOfWrongForm(t *testing.T) {
	for _, b := range wrong() {
		for _, ahead := range []int{0, 1, 2, 3} {
			for _, behind := range []int{0, 1, 2, 7, 200} {
				p := newPair(t, 300, 300)
				for range ahead {
					p.feed(bytesOf(sized(5)))
				}
				p.feed(b[:5])
				for range ahead {
					p.gives(sized(5))
				}
				p.fails(api.ErrMore)
				p.feed(append([]byte{b[5]}, make([]byte, behind)...))
				p.fails(api.ErrForm)
			}
		}
	}
}

func TestNextOfEveryProtocolAndLength(t *testing.T) {
	rest := sized(253).Pdu
	for n := range 65536 {
		if n > 0 {
			p := newPair(t, 0, 260)
			p.feed([]byte{0, 1, byte(n >> 8), byte(n), 0, 3, 17, 3, 1})
			p.fails(api.ErrForm)
		}
		p := newPair(t, 0, 260)
		p.feed(append([]byte{0, 1, 0, 0, byte(n >> 8), byte(n), 17}, rest...))
		if n < 2 || n > 254 {
			p.fails(api.ErrForm)
			continue
		}
		p.gives(adu.Frame{Trans: 1, Unit: 17, Pdu: rest[:n-1]})
	}
}

// Until Next tells of it, a wrong header changes nothing: bytes wait, and further ones are taken.
func TestBadFromNextOn(t *testing.T) {
	for _, b := range wrong() {
		p := newPair(t, 400, 400)
		p.feed(b)
		p.feed(bytesOf(sized(9)))
		if p.flow.Bad() || !p.flow.Ready() || p.flow.Held() != 6+16 {
			t.Fatal(b, p.flow.Bad(), p.flow.Ready(), p.flow.Held())
		}
		p.feed(make([]byte, 1000))
		p.fails(api.ErrForm)
		if !p.flow.Bad() || !p.flow.Ready() || p.flow.Held() != 0 {
			t.Fatal(b, p.flow.Bad(), p.flow.Ready(), p.flow.Held())
		}
	}
}

func TestBadForEver(t *testing.T) {
	good := bytesOf(sized(9))
	for _, b := range wrong() {
		for _, most := range []int{0, 260, 300, 65536, 70000} {
			p := newPair(t, most, min(max(most, 260), 65536))
			p.feed(append(append(bytes.Clone(good), b...), good...))
			p.gives(sized(9))
			for i := range 20 {
				p.fails(api.ErrForm)
				p.feed(good[:i%17])
				p.feed(nil)
				p.feed(make([]byte, 70000))
				if p.flow.Feed(good) != 0 || p.flow.Held() != 0 || !p.flow.Bad() || !p.flow.Ready() {
					t.Fatal(b, most, i)
				}
			}
		}
	}
}

// A queue that is full always holds a frame, or a wrong header.
func TestReadyWhenFull(t *testing.T) {
	for n := range 65536 {
		p := newPair(t, 0, 260)
		p.feed(append([]byte{0, 1, 0, 0, byte(n >> 8), byte(n)}, make([]byte, 260)...))
		if p.flow.Held() != 260 || !p.flow.Ready() {
			t.Fatal(n, p.flow.Held())
		}
	}
}

// What goes in and comes out is nobody else's.

// spoil overwrites b and the spare capacity behind it.
func spoil(b []byte) {
	b = b[:cap(b)]
	for i := range b {
		b[i] = 0xEE
	}
}

func TestFeedLeavesTheBytes(t *testing.T) {
	for _, f := range frames() {
		all := append(bytesOf(f), bytes.Repeat([]byte{0xA5}, 300)...)
		was := bytes.Clone(all)
		p := newPair(t, 0, 260)
		p.feed(all[:len(f.Pdu)])
		p.feed(all[len(f.Pdu) : len(f.Pdu)+7])
		if !bytes.Equal(all, was) {
			t.Fatalf("%v became %v", was, all)
		}
		spoil(all)
		p.gives(f)
		if p.feed(was[len(f.Pdu)+7:]); !bytes.Equal(all, bytes.Repeat([]byte{0xEE}, len(all))) {
			t.Fatalf("%v: the bytes changed later", f)
		}
	}
}

func TestFramesAreNewMemory(t *testing.T) {
	for n := 1; n <= 253; n++ {
		p := newPair(t, 600, 600)
		p.feed(bytesOf(sized(n), sized(n), sized(254-n)))
		first, _ := p.next()
		spoil(first.Pdu)
		second, _ := p.next()
		third, _ := p.next()
		spoil(third.Pdu)
		p.feed(make([]byte, 600))
		if !same(second, sized(n)) {
			t.Fatalf("a Pdu of %d bytes became %v", n, second)
		}
	}
}

func TestFlowsAreTheirOwn(t *testing.T) {
	a, b, c := newPair(t, 300, 300), newPair(t, 300, 300), newPair(t, 300, 300)
	c.feed(wrong()[0])
	c.fails(api.ErrForm)
	for i := range 200 {
		f := sized(1 + i%253)
		a.feed(bytesOf(f))
		b.feed(bytesOf(sized(3))[:i%5])
		a.check("other")
		b.next()
		a.next()
		b.check("other")
		c.feed(bytesOf(f))
		c.fails(api.ErrForm)
	}
}

// A flow that New did not make has no room, and no call of it panics.
func TestFlowWithoutRoom(t *testing.T) {
	f := new(flow.Flow)
	for range 3 {
		if n := f.Feed([]byte{1, 2, 3, 4, 5, 6}); n != 0 || f.Held() != 0 || f.Bad() || f.Ready() {
			t.Error(n, f.Held(), f.Bad(), f.Ready())
		}
		if x, e := f.Next(); !same(x, adu.Frame{}) || e != api.ErrMore {
			t.Error(x, e)
		}
	}
}

// Promise 10.3.

// flows feeds stream in the pieces that size tells, asks for all frames after every so many of them, or when
// there is no room, and answers the frames.
func flows(t *testing.T, stream []byte, most, every int, size func() int) (*flow.Flow, []adu.Frame) {
	t.Helper()
	f := flow.New(most)
	var got []adu.Frame
	for at, pieces := 0, 1; !f.Bad() && (at < len(stream) || f.Ready()); pieces++ {
		n := f.Feed(stream[at:min(at+size(), len(stream))])
		at += n
		if n > 0 && at < len(stream) && pieces%every != 0 {
			continue
		}
		e := api.OK
		for f.Ready() && e == api.OK {
			var x adu.Frame
			if x, e = f.Next(); e == api.OK {
				got = append(got, x)
				n++
			}
		}
		if n == 0 && e != api.ErrForm {
			t.Fatalf("room for %d: %d bytes wait, and nothing goes on", most, f.Held())
		}
	}
	return f, got
}

func sameAll(a, b []adu.Frame) bool {
	for i := range min(len(a), len(b)) {
		if !same(a[i], b[i]) {
			return false
		}
	}
	return len(a) == len(b)
}

// uneven is sizes from 1 to most in an order without a short period.
func uneven(most int) func() int {
	state := uint32(most)
	return func() int {
		state = state*1664525 + 1013904223
		return int(state>>8)%most + 1
	}
}

func TestSameFramesFromAllPieces(t *testing.T) {
	fs := frames()
	stream := bytesOf(fs...)
	for _, most := range []int{0, 261, 300, 1000, 65536} {
		for _, piece := range []int{1, 2, 3, 5, 6, 7, 8, 13, 100, 259, 260, 261, 4096, len(stream)} {
			for _, every := range []int{1, 2, 7, 1 << 30} {
				for _, size := range []func() int{func() int { return piece }, uneven(piece)} {
					f, got := flows(t, stream, most, every, size)
					if !sameAll(got, fs) || f.Bad() || f.Held() != 0 {
						t.Fatalf("room for %d, pieces of %d, %d: %d frames, Bad = %t, Held = %d",
							most, piece, every, len(got), f.Bad(), f.Held())
					}
				}
			}
		}
	}
}

// Every division of a short stream into three pieces, with what is there asked for after each of them or not.
func TestSameFramesFromEveryDivision(t *testing.T) {
	fs := []adu.Frame{sized(1), {Trans: 2, Unit: 3, Pdu: []byte{0, 9, 0, 1, 0, 6}}, sized(5)}
	stream := bytesOf(fs...)
	for first := range len(stream) + 1 {
		for second := first; second <= len(stream); second++ {
			for asks := range 4 {
				p := newPair(t, 0, 260)
				var got []adu.Frame
				take := func() {
					for x, e := p.next(); e == api.OK; x, e = p.next() {
						got = append(got, x)
					}
				}
				p.feed(stream[:first])
				if asks&1 != 0 {
					take()
				}
				p.feed(stream[first:second])
				if asks&2 != 0 {
					take()
				}
				p.feed(stream[second:])
				take()
				if !sameAll(got, fs) {
					t.Fatalf("divided at %d and %d: %v", first, second, got)
				}
			}
		}
	}
}

// The frames ahead of a wrong header result, and none behind it, however the bytes are divided.
func TestSameEndFromAllPieces(t *testing.T) {
	fs := frames()[:40]
	for _, b := range wrong() {
		stream := append(append(bytesOf(fs...), b...), bytesOf(fs...)...)
		for _, most := range []int{0, 300, 65536} {
			for _, piece := range []int{1, 2, 5, 6, 7, 100, 260, len(stream)} {
				f, got := flows(t, stream, most, 1, uneven(piece))
				for range 3 {
					if x, e := f.Next(); !same(x, adu.Frame{}) || e != api.ErrForm {
						t.Fatal(x, e)
					}
				}
				if !sameAll(got, fs) || !f.Bad() || f.Held() != 0 {
					t.Fatalf("%v, room for %d, pieces of %d: %d frames, Bad = %t, Held = %d", b, most, piece, len(got), f.Bad(), f.Held())
				}
			}
		}
	}
}
