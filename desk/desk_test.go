package desk_test

import (
	"math"
	"testing"

	"busbar/api"
	"busbar/desk"
)

// pair is a desk, and what the chapter says of its places, kept as a plain list.
type pair struct {
	t      *testing.T
	desk   *desk.Desk
	states []int
}

func newPair(t *testing.T, most, clamped int) *pair {
	t.Helper()
	p := &pair{t: t, desk: desk.New(most), states: make([]int, clamped)}
	p.check("New", most)
	return p
}

// at is a desk whose places stand as states says.
func at(t *testing.T, states []int) *pair {
	t.Helper()
	p := newPair(t, len(states), len(states))
	for range states {
		p.open()
	}
	for c, state := range states {
		switch state {
		case api.Ended:
			p.end(c)
		case api.Free:
			p.close(c)
		}
	}
	return p
}

// check holds all that the desk tells, without a change, against the list.
func (p *pair) check(call string, n int) {
	p.t.Helper()
	many := 0
	for c := -2; c < 70; c++ {
		want := p.state(c)
		if want != api.Free {
			many++
		}
		if got := p.desk.State(c); got != want {
			p.t.Fatalf("%s %d: State(%d) = %d, want %d", call, n, c, got, want)
		}
	}
	for range 2 {
		if got := p.desk.Many(); got != many {
			p.t.Fatalf("%s %d: Many = %d, want %d", call, n, got, many)
		}
	}
}

func (p *pair) state(c int) int {
	if c < 0 || c >= len(p.states) {
		return api.Free
	}
	return p.states[c]
}

func (p *pair) open() {
	p.t.Helper()
	want, wantIs := 0, false
	for c := len(p.states) - 1; c >= 0; c-- {
		if p.states[c] == api.Free {
			want, wantIs = c, true
		}
	}
	if got, is := p.desk.Open(); got != want || is != wantIs {
		p.t.Fatalf("Open of %v = %d, %t; want %d, %t", p.states, got, is, want, wantIs)
	}
	if wantIs {
		p.states[want] = api.Live
	}
	p.check("Open", want)
}

func (p *pair) end(c int) {
	p.t.Helper()
	want := p.state(c) == api.Live
	if got := p.desk.End(c); got != want {
		p.t.Fatalf("End(%d) of %v = %t, want %t", c, p.states, got, want)
	}
	if want {
		p.states[c] = api.Ended
	}
	p.check("End", c)
}

func (p *pair) close(c int) {
	p.t.Helper()
	want := p.state(c) == api.Live || p.state(c) == api.Ended
	if got := p.desk.Close(c); got != want {
		p.t.Fatalf("Close(%d) of %v = %t, want %t", c, p.states, got, want)
	}
	if want {
		p.states[c] = api.Free
	}
	p.check("Close", c)
}

// everyDesk calls do with desks of up to most places, in every state that they may be in.
func everyDesk(t *testing.T, most int, do func(fresh func() *pair)) {
	t.Helper()
	ways := 1
	for n := range most + 1 {
		for way := range ways {
			states := make([]int, n)
			for c := range states {
				states[c] = []int{api.Free, api.Live, api.Ended}[way%3]
				way /= 3
			}
			do(func() *pair { return at(t, states) })
		}
		ways *= 3
	}
}

// nowhere are numbers at which no desk has a place.
func nowhere() []int {
	return []int{math.MinInt, math.MinInt + 1, -1<<32 + 1, -1 << 31, -65536, -256, -32, -31, -2, -1,
		32, 33, 63, 64, 65, 255, 256, 257, 65535, 65536, 1 << 31, 1 << 32, 1<<32 + 1, math.MaxInt - 1, math.MaxInt}
}

// Promise 11.1.

func TestExample(t *testing.T) {
	d := desk.New(2)
	for _, want := range []int{0, 1} {
		if c, is := d.Open(); c != want || !is {
			t.Error(c, is)
		}
	}
	if c, is := d.Open(); c != 0 || is {
		t.Error(c, is)
	}
	if !d.Close(0) {
		t.Error("place 0 is not closed")
	}
	if c, is := d.Open(); c != 0 || !is {
		t.Error(c, is)
	}
}

// The numbers that the three states go by are those of package api, and a new place is Free.
func TestStates(t *testing.T) {
	d := desk.New(1)
	for _, c := range []struct {
		state, many int
		next        func() bool
	}{
		{api.Free, 0, func() bool { _, is := d.Open(); return is }},
		{api.Live, 1, func() bool { return d.End(0) }},
		{api.Ended, 1, func() bool { return d.Close(0) }},
		{api.Free, 0, func() bool { _, is := d.Open(); return is }},
		{api.Live, 1, func() bool { return d.Close(0) }},
		{api.Free, 0, func() bool { return !d.Close(0) && !d.End(0) }},
		{api.Free, 0, func() bool { return true }},
	} {
		if d.State(0) != c.state || d.Many() != c.many {
			t.Errorf("State = %d, Many = %d; want %d, %d", d.State(0), d.Many(), c.state, c.many)
		}
		if !c.next() {
			t.Errorf("state %d is not left", c.state)
		}
	}
}

func TestNew(t *testing.T) {
	for most := range 33 {
		p := newPair(t, most, most)
		for range most + 3 {
			p.open()
		}
		if many := p.desk.Many(); many != most {
			t.Errorf("New(%d): %d places", most, many)
		}
	}
}

func TestNewClamps(t *testing.T) {
	for _, most := range nowhere() {
		clamped := 32
		if most < 0 {
			clamped = 0
		}
		p := newPair(t, most, clamped)
		for range 40 {
			p.open()
		}
		if many := p.desk.Many(); many != clamped {
			t.Errorf("New(%d): %d places, want %d", most, many, clamped)
		}
	}
}

// Open takes the Free place with the smallest number, and passes by those that have Ended.
func TestOpen(t *testing.T) {
	everyDesk(t, 6, func(fresh func() *pair) {
		p := fresh()
		for range p.states {
			p.open()
		}
		p.open()
	})
}

func TestOpenOfTheLargest(t *testing.T) {
	for c := range 32 {
		p := newPair(t, 32, 32)
		for range 33 {
			p.open()
		}
		p.end(c)
		p.open()
		p.close(c)
		p.close(31 - c)
		p.open()
		p.open()
		p.open()
	}
}

func TestEndAndClose(t *testing.T) {
	everyDesk(t, 4, func(fresh func() *pair) {
		for c := -2; c < 35; c++ {
			p := fresh()
			p.end(c)
			p.end(c)
			p.close(c)
			p.close(c)
			p.end(c)
			p.open()
			p = fresh()
			p.close(c)
			p.close(c)
			p.end(c)
			p.open()
		}
	})
}

func TestEndAndCloseOfTheLargest(t *testing.T) {
	p := newPair(t, 32, 32)
	for range 32 {
		p.open()
	}
	for i := range 32 {
		p.end(i * 5 % 32)
		p.end(i * 5 % 32)
	}
	p.open()
	for i := range 32 {
		p.close(i * 7 % 32)
		p.close(i * 7 % 32)
		p.end(i * 7 % 32)
	}
}

// What is no place of the desk is Free for ever: nothing ends or closes it, and nothing else changes.
func TestNoSuchPlace(t *testing.T) {
	for most := range 33 {
		for _, opened := range []int{0, most / 2, most} {
			p := newPair(t, most, most)
			for range opened {
				p.open()
			}
			for _, c := range append(nowhere(), most, most+1) {
				if state := p.desk.State(c); state != api.Free {
					t.Errorf("%d places: State(%d) = %d", most, c, state)
				}
				p.end(c)
				p.close(c)
			}
		}
	}
}

// All ways of three calls, one after the other, from every state.
func TestCallsInEveryOrder(t *testing.T) {
	everyDesk(t, 3, func(fresh func() *pair) {
		for way := range 9 * 9 * 9 {
			p := fresh()
			for range 3 {
				switch kind := way % 9; {
				case kind == 0:
					p.open()
				case kind < 5:
					p.end(kind - 1)
				default:
					p.close(kind - 5)
				}
				way /= 9
			}
		}
	})
}

func TestDesksAreTheirOwn(t *testing.T) {
	a, b := newPair(t, 5, 5), newPair(t, 5, 5)
	for i := range 200 {
		if i%2 == 0 {
			a.open()
		}
		b.check("other", i)
		if i%3 == 0 {
			b.open()
		}
		a.end(i % 7)
		b.close(i % 5)
		a.check("other", i)
		a.close(i * 3 % 7)
		b.end(i % 4)
	}
}

// A desk is a value: what is done to a copy is not done to the desk that it was made from.
func TestCopyOfADesk(t *testing.T) {
	everyDesk(t, 4, func(fresh func() *pair) {
		p := fresh()
		d := *p.desk
		for c := range p.states {
			d.End(c)
			p.check("End of a copy", c)
			d.Close(c)
			p.check("Close of a copy", c)
		}
		for c := range p.states {
			d.Open()
			p.check("Open of a copy", c)
		}
	})
}

// A desk that New did not make has no places, and no call of it panics.
func TestDeskWithoutPlaces(t *testing.T) {
	p := &pair{t: t, desk: new(desk.Desk)}
	for range 3 {
		p.open()
		for _, c := range append(nowhere(), 0, 1, 31) {
			p.end(c)
			p.close(c)
		}
	}
}

// Promise 11.2.

// W5: however it is called, a desk has no more connections than it was made for.
func TestNeverMoreThanTheLimit(t *testing.T) {
	for _, most := range []int{-1, 0, 1, 2, 31, 32, 33, 1000} {
		limit := min(max(most, 0), 32)
		p := newPair(t, most, limit)
		state := uint32(most)
		full := false
		for range 5000 {
			state = state*1664525 + 1013904223
			c := int(state>>16)%(limit+2) - 1
			switch state >> 8 % 8 {
			case 0:
				p.end(c)
			case 1, 2:
				p.close(c)
			default:
				p.open()
			}
			full = full || p.desk.Many() == limit
			if many := p.desk.Many(); many > limit {
				t.Fatalf("New(%d): Many = %d", most, many)
			}
		}
		if !full {
			t.Errorf("New(%d): the limit was never reached", most)
		}
	}
}

// What is refused at the limit changes nothing, and with a place that is closed there is room again.
func TestRefusedAtTheLimit(t *testing.T) {
	for most := range 33 {
		for c := range most {
			p := newPair(t, most, most)
			for range most {
				p.open()
			}
			for range 3 {
				p.open()
			}
			p.end(c)
			p.open()
			p.close(c)
			p.open()
			p.open()
		}
	}
}
