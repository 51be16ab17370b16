package ask_test

import (
	"bytes"
	"fmt"
	"math"
	"reflect"
	"slices"
	"testing"

	"busbar/api"
	"busbar/ask"
)

// The numbers stand here as the chapters write them, and not by their names in package api.
const (
	function = 1
	value    = 3
)

var known = []int{1, 2, 3, 4, 5, 6, 15, 16, 22, 23, 43}

// most is how many addresses each function may read, and how many it may write.
var most = map[int][2]int{
	1: {2000, 0}, 2: {2000, 0}, 3: {125, 0}, 4: {125, 0}, 5: {0, 1}, 6: {0, 1},
	15: {0, 1968}, 16: {0, 123}, 22: {0, 1}, 23: {125, 121}, 43: {0, 0},
}

// ends are numbers that no field has, and that have others in their low bits.
var ends = []int{
	math.MinInt, math.MinInt + 1, math.MinInt + 2, math.MinInt32, -1 << 32, -65536, -65535, -256, -255, -1,
	1 << 16, 1<<16 + 1, 1<<31 + 1, 1<<32 + 1, 1 << 48, math.MaxInt - 1, math.MaxInt,
}

// ordinary is requests and their bytes, at least one of each function.
var ordinary = []struct {
	a api.Ask
	b []byte
}{
	{api.Ask{Fn: 1, At: 19, N: 37}, []byte{1, 0, 19, 0, 37}},
	{api.Ask{Fn: 1, At: 0x1234, N: 0x0567}, []byte{1, 0x12, 0x34, 0x05, 0x67}},
	{api.Ask{Fn: 2, At: 196, N: 22}, []byte{2, 0, 196, 0, 22}},
	{api.Ask{Fn: 2, At: 65535, N: 2000}, []byte{2, 255, 255, 7, 208}},
	{api.Ask{Fn: 3, At: 107, N: 3}, []byte{3, 0, 107, 0, 3}},
	{api.Ask{Fn: 3, N: 125}, []byte{3, 0, 0, 0, 125}},
	{api.Ask{Fn: 4, At: 256, N: 1}, []byte{4, 1, 0, 0, 1}},
	{api.Ask{Fn: 5, At: 172, Value: 1}, []byte{5, 0, 172, 255, 0}},
	{api.Ask{Fn: 5, At: 0xac00}, []byte{5, 172, 0, 0, 0}},
	{api.Ask{Fn: 5}, []byte{5, 0, 0, 0, 0}},
	{api.Ask{Fn: 6, At: 1, Value: 3}, []byte{6, 0, 1, 0, 3}},
	{api.Ask{Fn: 6, At: 0x1234, Value: 0xabcd}, []byte{6, 0x12, 0x34, 0xab, 0xcd}},
	{api.Ask{Fn: 6}, []byte{6, 0, 0, 0, 0}},
	{api.Ask{Fn: 15, At: 19, N: 10, Bits: pattern(10)}, []byte{15, 0, 19, 0, 10, 2, 0xcd, 0x01}},
	{api.Ask{Fn: 15, At: 0x1234, N: 8, Bits: pattern(8)}, []byte{15, 0x12, 0x34, 0, 8, 1, 0xcd}},
	{api.Ask{Fn: 15, At: 5, N: 1, Bits: []bool{true}}, []byte{15, 0, 5, 0, 1, 1, 1}},
	{api.Ask{Fn: 15, At: 5, N: 1, Bits: []bool{false}}, []byte{15, 0, 5, 0, 1, 1, 0}},
	{api.Ask{Fn: 16, At: 1, N: 2, Words: []uint16{10, 258}}, []byte{16, 0, 1, 0, 2, 4, 0, 10, 1, 2}},
	{api.Ask{Fn: 16, At: 0x1234, N: 1, Words: []uint16{0xfffe}}, []byte{16, 0x12, 0x34, 0, 1, 2, 255, 254}},
	{api.Ask{Fn: 22, At: 4, And: 0xf2, Or: 0x25}, []byte{22, 0, 4, 0, 0xf2, 0, 0x25}},
	{api.Ask{Fn: 22, At: 0x1234, And: 0x5678, Or: 0x9abc}, []byte{22, 0x12, 0x34, 0x56, 0x78, 0x9a, 0xbc}},
	{api.Ask{Fn: 22}, []byte{22, 0, 0, 0, 0, 0, 0}},
	{api.Ask{Fn: 23, ReadAt: 3, ReadN: 6, At: 14, N: 3, Words: []uint16{255, 256, 257}},
		[]byte{23, 0, 3, 0, 6, 0, 14, 0, 3, 6, 0, 255, 1, 0, 1, 1}},
	{api.Ask{Fn: 23, ReadAt: 0x1234, ReadN: 1, At: 0x5678, N: 1, Words: []uint16{0x9abc}},
		[]byte{23, 0x12, 0x34, 0, 1, 0x56, 0x78, 0, 1, 2, 0x9a, 0xbc}},
	{api.Ask{Fn: 43, Code: 1}, []byte{43, 14, 1, 0}},
	{api.Ask{Fn: 43, Code: 2, Object: 1}, []byte{43, 14, 2, 1}},
	{api.Ask{Fn: 43, Code: 3, Object: 128}, []byte{43, 14, 3, 128}},
	{api.Ask{Fn: 43, Code: 4, Object: 255}, []byte{43, 14, 4, 255}},
}

// pattern is n bits that repeat the ten of 0xcd, 0x01.
func pattern(n int) []bool {
	ten := []bool{true, false, true, true, false, false, true, true, true, false}
	l := make([]bool, n)
	for i := range l {
		l[i] = ten[i%10]
	}
	return l
}

// counted is n words that differ.
func counted(n int) []uint16 {
	l := make([]uint16, n)
	for i := range l {
		l[i] = uint16(i*601 + 255)
	}
	return l
}

// of is a valid request of a function that reads, or writes, n addresses.
func of(fn, n int) api.Ask {
	a := api.Ask{Fn: fn, At: 7}
	switch fn {
	case 1, 2, 3, 4:
		a.N = n
	case 15:
		a.N, a.Bits = n, pattern(n)
	case 16:
		a.N, a.Words = n, counted(n)
	case 23:
		a.N, a.Words = n, counted(n)
		a.ReadAt, a.ReadN = 9, 2
	case 43:
		a.At, a.Code = 0, 1
	}
	return a
}

// greatest is how many addresses the N of a function names at most, or 0 if it has none.
func greatest(fn int) int {
	switch fn {
	case 1, 2, 3, 4:
		return most[fn][0]
	case 15, 16, 23:
		return most[fn][1]
	}
	return 0
}

// same holds two requests against each other; lists of nothing are alike.
func same(a, b api.Ask) bool {
	bits, words := slices.Equal(a.Bits, b.Bits), slices.Equal(a.Words, b.Words)
	a.Bits, a.Words, b.Bits, b.Words = nil, nil, nil, nil
	return bits && words && reflect.DeepEqual(a, b)
}

func short(a api.Ask) string {
	if len(a.Bits)+len(a.Words) < 20 {
		return fmt.Sprintf("%+v", a)
	}
	bits, words := len(a.Bits), len(a.Words)
	a.Bits, a.Words = nil, nil
	return fmt.Sprintf("%+v with %d bits, %d words", a, bits, words)
}

// valid wants a to be a request.
func valid(t *testing.T, a api.Ask) {
	t.Helper()
	if b, e := ask.Bytes(a); !ask.Right(a) || len(b) == 0 || len(b) > 253 || e != 0 {
		t.Errorf("%s: Right %v, %d bytes, error %d; want a request", short(a), ask.Right(a), len(b), e)
	}
}

// invalid wants a to be none, in each call that asks it.
func invalid(t *testing.T, a api.Ask) {
	t.Helper()
	b, e := ask.Bytes(a)
	if ask.Right(a) || len(b) != 0 || e != api.ErrArg {
		t.Errorf("%s: Right %v, %v, error %d; want none", short(a), ask.Right(a), b, e)
	}
	if read, write := ask.Spans(a); len(read) != 0 || len(write) != 0 {
		t.Errorf("%s: Spans %v, %v; want none", short(a), read, write)
	}
}

// Promise 5.1.

func TestBytesOfOrdinaryRequests(t *testing.T) {
	seen := map[int]bool{}
	for _, c := range ordinary {
		seen[c.a.Fn] = true
		b, e := ask.Bytes(c.a)
		if !ask.Right(c.a) || !bytes.Equal(b, c.b) || e != api.OK {
			t.Errorf("%s: Right %v, Bytes %v, %d; want %v", short(c.a), ask.Right(c.a), b, e, c.b)
		}
	}
	for _, fn := range known {
		if !seen[fn] {
			t.Errorf("no request of function %d", fn)
		}
	}
}

func TestBytesOfEveryN(t *testing.T) {
	for _, fn := range known {
		for n := 1; n <= greatest(fn); n++ {
			a := of(fn, n)
			want := encoded(a)
			if b, e := ask.Bytes(a); !ask.Right(a) || !bytes.Equal(b, want) || e != api.OK {
				t.Fatalf("%s: %v, %d; want %v", short(a), b, e, want)
			}
		}
	}
}

// encoded writes a request down as the chapter's table says it, without the packages.
func encoded(a api.Ask) []byte {
	words := func(ns ...int) (b []byte) {
		for _, n := range ns {
			b = append(b, byte(n/256), byte(n%256))
		}
		return b
	}
	list := []byte{}
	for _, w := range a.Words {
		list = append(list, words(int(w))...)
	}
	for i, v := range a.Bits {
		if i%8 == 0 {
			list = append(list, 0)
		}
		if v {
			list[i/8] += []byte{1, 2, 4, 8, 16, 32, 64, 128}[i%8]
		}
	}
	pair := words(a.At, a.N)
	switch a.Fn {
	case 5:
		pair = append(words(a.At), 255*byte(a.Value), 0)
	case 6:
		pair = words(a.At, int(a.Value))
	case 15, 16:
		pair = slices.Concat(pair, []byte{byte(len(list))}, list)
	case 22:
		pair = words(a.At, int(a.And), int(a.Or))
	case 23:
		pair = slices.Concat(words(a.ReadAt, a.ReadN), pair, []byte{byte(len(list))}, list)
	case 43:
		pair = []byte{14, byte(a.Code), byte(a.Object)}
	}
	return append([]byte{byte(a.Fn)}, pair...)
}

func TestRightRefusesOtherFunctions(t *testing.T) {
	others := slices.Clone(ends)
	for fn := -2; fn < 600; fn++ {
		if !slices.Contains(known, fn) {
			others = append(others, fn)
		}
	}
	for _, fn := range others {
		for _, c := range ordinary {
			a := c.a
			a.Fn = fn
			invalid(t, a)
		}
		invalid(t, api.Ask{Fn: fn})
	}
	for _, fn := range known {
		a := of(fn, 1)
		for _, far := range []int{-fn, fn + 256, fn + 65536, fn + 1<<32, fn + math.MinInt, fn | 128} {
			a.Fn = far
			invalid(t, a)
		}
	}
}

func TestRightOfAddresses(t *testing.T) {
	for _, fn := range known {
		if fn == 43 {
			continue
		}
		for _, at := range []int{0, 1, 255, 256, 32767, 32768, 65534, 65535} {
			a := of(fn, 1)
			a.At = at
			valid(t, a)
		}
		for _, at := range ends {
			a := of(fn, 1)
			a.At = at
			invalid(t, a)
		}
	}
	for _, at := range []int{0, 1, 255, 256, 32767, 32768, 65534, 65535} {
		a := of(23, 1)
		a.ReadAt = at
		valid(t, a)
	}
	for _, at := range ends {
		a := of(23, 1)
		a.ReadAt = at
		invalid(t, a)
	}
}

func TestRightOfN(t *testing.T) {
	for _, fn := range known {
		n := greatest(fn)
		if n == 0 {
			continue
		}
		valid(t, of(fn, 1))
		valid(t, of(fn, 2))
		valid(t, of(fn, n-1))
		valid(t, of(fn, n))
		invalid(t, of(fn, 0))
		invalid(t, of(fn, n+1))
		invalid(t, of(fn, n+2))
		invalid(t, of(fn, 65536+1))
		for _, n := range ends {
			a := of(fn, 1)
			a.N = n
			invalid(t, a)
		}
	}
}

func TestRightOfReadN(t *testing.T) {
	for n, ok := range map[int]bool{0: false, 1: true, 2: true, 124: true, 125: true, 126: false, 127: false, 2000: false} {
		for _, writes := range []int{1, 121} {
			a := of(23, writes)
			a.ReadN = n
			if ok {
				valid(t, a)
			} else {
				invalid(t, a)
			}
		}
	}
	for _, n := range ends {
		a := of(23, 1)
		a.ReadN = n
		invalid(t, a)
	}
}

func TestRightOfValue(t *testing.T) {
	for v := range 1 << 16 {
		a := api.Ask{Fn: 5, At: 1, Value: uint16(v)}
		if v <= 1 {
			valid(t, a)
		} else {
			invalid(t, a)
		}
		valid(t, api.Ask{Fn: 6, At: 1, Value: uint16(v)})
	}
	// There is no word for a Value of -1; the nearest is what its conversion leaves.
	least := -1
	invalid(t, api.Ask{Fn: 5, Value: uint16(least)})
}

func TestRightOfLists(t *testing.T) {
	for _, fn := range []int{15, 16, 23} {
		for _, n := range []int{1, 2, 8, 9, greatest(fn)} {
			for _, have := range []int{0, 1, n - 1, n + 1, n + 8, 2 * n} {
				if have == n {
					continue
				}
				a := of(fn, have)
				a.N = n
				invalid(t, a)
				a = of(fn, have)
				a.N = n
				a.Bits, a.Words = pattern(0), counted(0)
				invalid(t, a)
				a = of(fn, n)
				a.N = have
				invalid(t, a)
			}
			// A list of the other kind does not stand in for the right one.
			a := of(fn, n)
			if fn == 15 {
				a.Bits, a.Words = nil, counted(n)
			} else {
				a.Bits, a.Words = pattern(n), nil
			}
			invalid(t, a)
		}
	}
}

func TestRightOfIdentification(t *testing.T) {
	for code := -2; code < 300; code++ {
		a := api.Ask{Fn: 43, Code: code, Object: 2}
		if 1 <= code && code <= 4 {
			valid(t, a)
		} else {
			invalid(t, a)
		}
	}
	for object := -300; object < 600; object++ {
		a := api.Ask{Fn: 43, Code: 4, Object: object}
		if 0 <= object && object <= 255 {
			valid(t, a)
		} else {
			invalid(t, a)
		}
	}
	for _, n := range ends {
		invalid(t, api.Ask{Fn: 43, Code: n})
		invalid(t, api.Ask{Fn: 43, Code: 1, Object: n})
	}
}

// field is one that a request has, by how it is set.
type field struct {
	name string
	fns  []int // the functions that the table names it for
	sets []func(*api.Ask)
}

func numberField(name string, fns []int, at func(*api.Ask) *int) field {
	f := field{name: name, fns: fns}
	for _, n := range []int{1, -1, 2, 255, 256, 65535, 65536, 1 << 32, math.MinInt, math.MaxInt} {
		f.sets = append(f.sets, func(a *api.Ask) { *at(a) = n })
	}
	return f
}

func wordField(name string, fns []int, at func(*api.Ask) *uint16) field {
	f := field{name: name, fns: fns}
	for _, w := range []uint16{1, 2, 255, 256, 0x8000, 65535} {
		f.sets = append(f.sets, func(a *api.Ask) { *at(a) = w })
	}
	return f
}

func fields() []field {
	return []field{
		numberField("At", []int{1, 2, 3, 4, 5, 6, 15, 16, 22, 23}, func(a *api.Ask) *int { return &a.At }),
		numberField("N", []int{1, 2, 3, 4, 15, 16, 23}, func(a *api.Ask) *int { return &a.N }),
		numberField("ReadAt", []int{23}, func(a *api.Ask) *int { return &a.ReadAt }),
		numberField("ReadN", []int{23}, func(a *api.Ask) *int { return &a.ReadN }),
		numberField("Code", []int{43}, func(a *api.Ask) *int { return &a.Code }),
		numberField("Object", []int{43}, func(a *api.Ask) *int { return &a.Object }),
		wordField("Value", []int{5, 6}, func(a *api.Ask) *uint16 { return &a.Value }),
		wordField("And", []int{22}, func(a *api.Ask) *uint16 { return &a.And }),
		wordField("Or", []int{22}, func(a *api.Ask) *uint16 { return &a.Or }),
		{"Bits", []int{15}, []func(*api.Ask){
			func(a *api.Ask) { a.Bits = []bool{false} },
			func(a *api.Ask) { a.Bits = []bool{true} },
			func(a *api.Ask) { a.Bits = pattern(10) },
			func(a *api.Ask) { a.Bits = make([]bool, a.N) },
		}},
		{"Words", []int{16, 23}, []func(*api.Ask){
			func(a *api.Ask) { a.Words = []uint16{0} },
			func(a *api.Ask) { a.Words = []uint16{1} },
			func(a *api.Ask) { a.Words = counted(10) },
			func(a *api.Ask) { a.Words = make([]uint16, a.N) },
		}},
	}
}

func TestRightRefusesWhatTheTableDoesNotName(t *testing.T) {
	names := reflect.TypeFor[api.Ask]().NumField() - 1 // all but Fn
	if len(fields()) != names {
		t.Errorf("%d fields are asked for, a request has %d", len(fields()), names)
	}
	for _, c := range ordinary {
		for _, f := range fields() {
			if slices.Contains(f.fns, c.a.Fn) {
				continue
			}
			for _, set := range f.sets {
				a := c.a
				if set(&a); !same(a, c.a) {
					invalid(t, a)
				}
			}
		}
	}
}

func TestRightTakesEmptyListsForNone(t *testing.T) {
	for _, c := range ordinary {
		a := c.a
		if a.Bits == nil {
			a.Bits = []bool{}
		}
		if a.Words == nil {
			a.Words = make([]uint16, 0, 4)
		}
		if b, e := ask.Bytes(a); !ask.Right(a) || !bytes.Equal(b, c.b) || e != api.OK {
			t.Errorf("%s with empty lists: %v, %d", short(c.a), b, e)
		}
	}
}

func TestBytesChangesNothingAndIsNewMemory(t *testing.T) {
	for _, c := range ordinary {
		a := c.a
		// Room behind the lists, which belongs to the caller.
		bits, words := append(slices.Clone(a.Bits), true, false, true), append(slices.Clone(a.Words), 7, 8, 9)
		a.Bits, a.Words = bits[:len(a.Bits)], words[:len(a.Words)]
		wasBits, wasWords := slices.Clone(bits), slices.Clone(words)
		ask.Right(a)
		ask.Spans(a)
		first, _ := ask.Bytes(a)
		second, _ := ask.Bytes(a)
		spoil(first)
		if !bytes.Equal(second, c.b) {
			t.Errorf("%s: two results share memory: %v", short(c.a), second)
		}
		if !slices.Equal(bits, wasBits) || !slices.Equal(words, wasWords) {
			t.Errorf("%s: the lists became %v, %v", short(c.a), bits, words)
		}
	}
}

// spoil overwrites b and the spare capacity behind it.
func spoil(b []byte) {
	b = b[:cap(b)]
	for i := range b {
		b[i] = 0xEE
	}
}

// Promise 5.2.

// parses wants b to be the bytes of a.
func parses(t *testing.T, b []byte, a api.Ask) {
	t.Helper()
	if got, exc := ask.Parse(b); !same(got, a) || exc != 0 {
		t.Errorf("Parse(%v) = %s, %d; want %s", b, short(got), exc, short(a))
	}
}

// fails wants b to be no request: with this Fn alone, and this exception.
func fails(t *testing.T, b []byte, fn, exc int) {
	t.Helper()
	if got, e := ask.Parse(b); !same(got, api.Ask{Fn: fn}) || e != exc {
		t.Errorf("Parse(%v) = %s, %d; want Fn %d, %d", b, short(got), e, fn, exc)
	}
}

func TestParseOrdinaryRequests(t *testing.T) {
	for _, c := range ordinary {
		parses(t, c.b, c.a)
	}
}

func TestParseOfNothing(t *testing.T) {
	fails(t, nil, 0, function)
	fails(t, []byte{}, 0, function)
	fails(t, []byte{3, 0, 0, 0, 1}[:0], 0, function)
}

func TestParseOfTheLongest(t *testing.T) {
	for fn := range 256 {
		for _, second := range []byte{0, 13, 14} {
			b := make([]byte, 300)
			b[0], b[1] = byte(fn), second
			exc := function
			if slices.Contains(known, fn) && (fn != 43 || second == 14) {
				exc = value
			}
			fails(t, b[:253], fn, exc)
			// Too long comes first, whatever the bytes are.
			fails(t, b[:254], 0, function)
			fails(t, b[:255], 0, function)
			fails(t, b, 0, function)
		}
	}
	for _, fn := range []int{15, 16, 23} {
		b := encoded(of(fn, greatest(fn)))
		if len(b) != 252 {
			t.Fatalf("function %d: %d bytes", fn, len(b))
		}
		parses(t, b, of(fn, greatest(fn)))
		fails(t, append(bytes.Clone(b), 0), fn, value)
		fails(t, append(bytes.Clone(b), 0, 0), 0, function)
	}
}

func TestParseOfOtherFunctions(t *testing.T) {
	for fn := range 256 {
		if slices.Contains(known, fn) {
			continue
		}
		fails(t, []byte{byte(fn)}, fn, function)
		for _, c := range ordinary {
			b := bytes.Clone(c.b)
			b[0] = byte(fn)
			fails(t, b, fn, function)
			fails(t, b[:len(b)-1], fn, function)
		}
	}
}

func TestParseOfIdentification(t *testing.T) {
	fails(t, []byte{43}, 43, value)
	fails(t, []byte{43, 14, 1, 0}[:1], 43, value)
	for second := range 256 {
		exc := function
		if second == 14 {
			exc = value
		}
		// Another byte than 14 comes ahead of a wrong length and of a wrong Code.
		fails(t, []byte{43, byte(second)}, 43, exc)
		fails(t, []byte{43, byte(second), 1}, 43, exc)
		fails(t, []byte{43, byte(second), 0, 0}, 43, exc)
		fails(t, []byte{43, byte(second), 5, 0}, 43, exc)
		fails(t, []byte{43, byte(second), 1, 0, 0}, 43, exc)
		if second != 14 {
			fails(t, []byte{43, byte(second), 1, 0}, 43, function)
		}
	}
	for code := range 256 {
		for object := range 256 {
			b := []byte{43, 14, byte(code), byte(object)}
			if 1 <= code && code <= 4 {
				parses(t, b, api.Ask{Fn: 43, Code: code, Object: object})
			} else {
				fails(t, b, 43, value)
			}
		}
	}
}

func TestParseOfMoreAndLess(t *testing.T) {
	list := ordinary
	for _, fn := range []int{15, 16, 23} {
		a := of(fn, greatest(fn))
		list = append(list, struct {
			a api.Ask
			b []byte
		}{a, encoded(a)})
	}
	for _, c := range list {
		for n := 1; n < len(c.b); n++ {
			fails(t, c.b[:n], c.a.Fn, value) // what stands behind the n bytes is no part of them
			fails(t, bytes.Clone(c.b[:n]), c.a.Fn, value)
		}
		for _, more := range []byte{0, 1, 14, 255} {
			fails(t, append(bytes.Clone(c.b), more), c.a.Fn, value)
		}
	}
}

func TestParseOfListsThatDoNotAgree(t *testing.T) {
	for _, fn := range []int{15, 16, 23} {
		for _, n := range []int{1, 2, 8, 9, 16, 17, 100, greatest(fn)} {
			a := of(fn, n)
			right := encoded(a)
			at := map[int]int{15: 5, 16: 5, 23: 9}[fn] // where the byte stands
			for told := range 256 {
				if told == int(right[at]) {
					continue
				}
				b := bytes.Clone(right)
				b[at] = byte(told)
				fails(t, b, fn, value) // as many bytes as N says
				b = append(b[:at+1], make([]byte, told)...)
				if len(b) <= 253 {
					fails(t, b, fn, value) // as many bytes as the byte says
				} else {
					fails(t, b, 0, function)
				}
			}
		}
		b := encoded(of(fn, 2))
		for n := range 1 << 16 {
			if n == 2 || fn == 15 && 1 <= n && n <= 8 {
				continue // the byte agrees with these
			}
			at := map[int]int{15: 3, 16: 3, 23: 7}[fn]
			b[at], b[at+1] = byte(n>>8), byte(n)
			fails(t, b, fn, value)
		}
	}
	// N that agrees with the byte only in its low bits, and N that is 0, or too many, with bytes that agree.
	fails(t, []byte{16, 0, 0, 0, 128, 0}, 16, value)
	fails(t, []byte{16, 0, 0, 0, 129, 2, 0, 1}, 16, value)
	fails(t, []byte{15, 0, 0, 8, 1, 1, 1}, 15, value)
	fails(t, []byte{15, 0, 0, 0, 0, 0}, 15, value)
	fails(t, []byte{15, 0, 0, 0, 0, 1, 0}, 15, value)
	fails(t, []byte{16, 0, 0, 0, 0, 0}, 16, value)
	fails(t, []byte{23, 0, 0, 0, 1, 0, 0, 0, 0, 0}, 23, value)
	fails(t, encoded(of(15, 1969)), 15, value)
	fails(t, encoded(of(15, 1976)), 15, value)
	fails(t, encoded(of(16, 124)), 0, function)
	fails(t, encoded(of(23, 122)), 0, function)
}

func TestParseOfNumbersOutOfRange(t *testing.T) {
	for n := range 1 << 16 {
		for _, fn := range []int{1, 2, 3, 4} {
			b := []byte{byte(fn), 1, 2, byte(n >> 8), byte(n)}
			if 1 <= n && n <= most[fn][0] {
				parses(t, b, api.Ask{Fn: fn, At: 258, N: n})
			} else {
				fails(t, b, fn, value)
			}
		}
		b := []byte{23, 1, 2, byte(n >> 8), byte(n), 3, 4, 0, 1, 2, 5, 6}
		if 1 <= n && n <= 125 {
			parses(t, b, api.Ask{Fn: 23, ReadAt: 258, ReadN: n, At: 772, N: 1, Words: []uint16{1286}})
		} else {
			fails(t, b, 23, value)
		}
	}
}

func TestParseOfACoil(t *testing.T) {
	for w := range 1 << 16 {
		b := []byte{5, 0, 172, byte(w >> 8), byte(w)}
		switch w {
		case 0xff00:
			parses(t, b, api.Ask{Fn: 5, At: 172, Value: 1})
		case 0:
			parses(t, b, api.Ask{Fn: 5, At: 172})
		default:
			fails(t, b, 5, value)
		}
		parses(t, []byte{6, 0, 172, byte(w >> 8), byte(w)}, api.Ask{Fn: 6, At: 172, Value: uint16(w)})
		parses(t, []byte{6, byte(w >> 8), byte(w), 0, 0}, api.Ask{Fn: 6, At: w})
	}
}

func TestParseDoesNotMindTheBitsBehindTheLast(t *testing.T) {
	for n := 1; n <= 40; n++ {
		a := of(15, n)
		right := encoded(a)
		for i := n % 8; 0 < i && i < 8; i++ {
			b := bytes.Clone(right)
			b[len(b)-1] |= 1 << i
			parses(t, b, a)
		}
		b := bytes.Clone(right)
		if n%8 != 0 {
			b[len(b)-1] |= 255 << (n % 8)
		}
		parses(t, b, a)
	}
}

// model is what the chapter says of bytes, by looking for the request among those that could be meant.
func model(b []byte) (api.Ask, int) {
	if len(b) == 0 || len(b) > 253 {
		return api.Ask{}, function
	}
	fn := int(b[0])
	none := api.Ask{Fn: fn}
	if !slices.Contains(known, fn) || fn == 43 && len(b) > 1 && b[1] != 14 {
		return none, function
	}
	a := none
	long := append(bytes.Clone(b), make([]byte, 300)...)
	w := func(at int) int { return int(long[at])*256 + int(long[at+1]) }
	a.At, a.N = w(1), w(3)
	switch fn {
	case 5:
		a.N, a.Value = 0, uint16(long[3]&1)
	case 6:
		a.N, a.Value = 0, uint16(w(3))
	case 15:
		for i := range min(a.N, 2000) {
			a.Bits = append(a.Bits, long[6+i/8]>>(i%8)&1 == 1)
		}
		if n := len(b) - 1; a.N%8 != 0 && n > 5 {
			b = bytes.Clone(b)
			b[n] &= 1<<(a.N%8) - 1
		}
	case 16:
		for i := range min(a.N, 123) {
			a.Words = append(a.Words, uint16(w(6+2*i)))
		}
	case 22:
		a.N, a.And, a.Or = 0, uint16(w(3)), uint16(w(5))
	case 23:
		a.ReadAt, a.ReadN, a.At, a.N = w(1), w(3), w(5), w(7)
		for i := range min(a.N, 121) {
			a.Words = append(a.Words, uint16(w(10+2*i)))
		}
	case 43:
		a.At, a.N, a.Code, a.Object = 0, 0, int(long[2]), int(long[3])
	}
	if !ask.Right(a) || !bytes.Equal(encoded(a), b) {
		return none, value
	}
	return a, 0
}

func TestParseOfEveryByteInEachPlace(t *testing.T) {
	hits := 0
	for _, c := range ordinary {
		for i := range c.b {
			for v := range 256 {
				b := bytes.Clone(c.b)
				b[i] = byte(v)
				want, exc := model(b)
				if got, e := ask.Parse(b); !same(got, want) || e != exc {
					t.Errorf("Parse(%v) = %s, %d; want %s, %d", b, short(got), e, short(want), exc)
				}
				if exc == 0 {
					hits++
				}
			}
		}
	}
	if hits < 1000 {
		t.Error("only", hits, "of them are requests")
	}
}

func TestParseChangesNothingAndKeepsNothing(t *testing.T) {
	for _, c := range ordinary {
		room := append(bytes.Clone(c.b), 1, 2, 3, 4)
		was := bytes.Clone(room)
		for n := range len(room) + 1 {
			ask.Parse(room[:n])
			if !bytes.Equal(room, was) {
				t.Fatalf("Parse of %d bytes made %v of %v", n, room, was)
			}
		}
		first, _ := ask.Parse(room[:len(c.b)])
		second, _ := ask.Parse(room[:len(c.b)])
		spoil(room)
		if !same(first, c.a) || !same(second, c.a) {
			t.Errorf("%v: a request changed with its bytes: %s", c.b, short(first))
		}
		for i := range first.Bits[:cap(first.Bits)] {
			first.Bits[:cap(first.Bits)][i] = !first.Bits[:cap(first.Bits)][i]
		}
		for i := range first.Words[:cap(first.Words)] {
			first.Words[:cap(first.Words)][i] ^= 0xEEEE
		}
		if !same(second, c.a) {
			t.Errorf("%v: two requests share memory: %s", c.b, short(second))
		}
	}
}

// Promise 5.3.

func span(table, from, to int) []api.Span {
	return []api.Span{{Table: table, From: from, To: to}}
}

func TestSpans(t *testing.T) {
	words := counted(123)
	for _, c := range []struct {
		a           api.Ask
		read, write []api.Span
	}{
		{api.Ask{Fn: 1, At: 19, N: 37}, span(0, 19, 56), nil},
		{api.Ask{Fn: 2, At: 0, N: 1}, span(1, 0, 1), nil},
		{api.Ask{Fn: 3, At: 107, N: 3}, span(2, 107, 110), nil},
		{api.Ask{Fn: 4, At: 8, N: 125}, span(3, 8, 133), nil},
		{api.Ask{Fn: 5, At: 172, Value: 1}, nil, span(0, 172, 173)},
		{api.Ask{Fn: 5, At: 172}, nil, span(0, 172, 173)},
		{api.Ask{Fn: 6, At: 0, Value: 9}, nil, span(2, 0, 1)},
		{api.Ask{Fn: 15, At: 19, N: 10, Bits: pattern(10)}, nil, span(0, 19, 29)},
		{api.Ask{Fn: 16, At: 1, N: 2, Words: words[:2]}, nil, span(2, 1, 3)},
		{api.Ask{Fn: 22, At: 4, And: 1, Or: 2}, nil, span(2, 4, 5)},
		{api.Ask{Fn: 23, ReadAt: 3, ReadN: 6, At: 14, N: 3, Words: words[:3]}, span(2, 3, 9), span(2, 14, 17)},
		{api.Ask{Fn: 23, ReadAt: 3, ReadN: 6, At: 3, N: 6, Words: words[:6]}, span(2, 3, 9), span(2, 3, 9)},
		{api.Ask{Fn: 43, Code: 1}, nil, nil},
		{api.Ask{Fn: 43, Code: 4, Object: 255}, nil, nil},
		// Up to the end of a table, and beyond it.
		{api.Ask{Fn: 1, At: 63536, N: 2000}, span(0, 63536, 65536), nil},
		{api.Ask{Fn: 1, At: 65535, N: 1}, span(0, 65535, 65536), nil},
		{api.Ask{Fn: 1, At: 65535, N: 2}, span(0, 65535, 65537), nil},
		{api.Ask{Fn: 2, At: 65535, N: 2000}, span(1, 65535, 67535), nil},
		{api.Ask{Fn: 3, At: 65535, N: 125}, span(2, 65535, 65660), nil},
		{api.Ask{Fn: 4, At: 65500, N: 125}, span(3, 65500, 65625), nil},
		{api.Ask{Fn: 5, At: 65535}, nil, span(0, 65535, 65536)},
		{api.Ask{Fn: 6, At: 65535}, nil, span(2, 65535, 65536)},
		{api.Ask{Fn: 22, At: 65535}, nil, span(2, 65535, 65536)},
		{api.Ask{Fn: 15, At: 65535, N: 1968, Bits: pattern(1968)}, nil, span(0, 65535, 67503)},
		{api.Ask{Fn: 16, At: 65535, N: 123, Words: words}, nil, span(2, 65535, 65658)},
		{api.Ask{Fn: 23, ReadAt: 65535, ReadN: 125, At: 65534, N: 121, Words: words[:121]},
			span(2, 65535, 65660), span(2, 65534, 65655)},
	} {
		read, write := ask.Spans(c.a)
		if !slices.Equal(read, c.read) || !slices.Equal(write, c.write) {
			t.Errorf("Spans(%s) = %v, %v; want %v, %v", short(c.a), read, write, c.read, c.write)
		}
	}
}

func TestSpansOfWhatIsNotValid(t *testing.T) {
	// invalid asks Spans as well, so that all of the tests of Right above hold for it; these are those
	// whose spans would be told most readily.
	for _, a := range []api.Ask{
		{}, {At: 1, N: 1}, {Fn: 7, At: 1, N: 1}, {Fn: 131, At: 1, N: 1},
		{Fn: 1, At: 1}, {Fn: 1, At: 1, N: 2001}, {Fn: 3, At: 1, N: 126}, {Fn: 3, At: -1, N: 2}, {Fn: 3, At: 65536, N: 1},
		{Fn: 3, At: math.MaxInt, N: 1}, {Fn: 3, At: 1, N: math.MaxInt}, {Fn: 3, At: 1, N: -1}, {Fn: 3, At: 1, N: 1, Value: 1},
		{Fn: 5, At: 1, Value: 2}, {Fn: 5, At: 1, N: 1}, {Fn: 6, At: 1, N: 1}, {Fn: 22, At: 1, N: 1}, {Fn: 22, At: 65536},
		{Fn: 15, At: 1, N: 2, Bits: pattern(1)}, {Fn: 16, At: 1, N: 2}, {Fn: 16, At: 1, N: 2, Words: counted(2), ReadN: 1},
		{Fn: 23, ReadAt: 1, ReadN: 1}, {Fn: 23, At: 1, N: 1, Words: counted(1)}, {Fn: 23, ReadAt: 1, ReadN: 126, N: 1, Words: counted(1)},
		{Fn: 43}, {Fn: 43, Code: 5}, {Fn: 43, Code: 1, At: 1, N: 1},
	} {
		invalid(t, a)
	}
}

func TestSpansAreNewMemory(t *testing.T) {
	a := api.Ask{Fn: 23, ReadAt: 3, ReadN: 6, At: 14, N: 1, Words: []uint16{1}}
	read, write := ask.Spans(a)
	for _, l := range [][]api.Span{read, write} {
		l = l[:cap(l)]
		for i := range l {
			l[i] = api.Span{Table: -1}
		}
		if again, too := ask.Spans(a); again[0] != (api.Span{Table: 2, From: 3, To: 9}) || too[0] != (api.Span{Table: 2, From: 14, To: 15}) {
			t.Errorf("after a change of a result: %v, %v", again, too)
		}
	}
	read, write = ask.Spans(a)
	_ = append(read, api.Span{Table: -1})
	if write[0] != (api.Span{Table: 2, From: 14, To: 15}) {
		t.Error("the two lists share memory:", write)
	}
}

// Promise 5.4.

// round wants a to come through its bytes as it was, and its bytes through it.
func round(t *testing.T, a api.Ask) {
	t.Helper()
	b, e := ask.Bytes(a)
	got, exc := ask.Parse(b)
	again, f := ask.Bytes(got)
	if e != 0 || exc != 0 || f != 0 || !same(got, a) || !bytes.Equal(again, b) {
		t.Fatalf("%s: %v, %d; parsed as %s, %d; %v, %d", short(a), b, e, short(got), exc, again, f)
	}
}

func TestRequestsComeThroughTheirBytes(t *testing.T) {
	for _, c := range ordinary {
		round(t, c.a)
	}
	for _, fn := range known {
		for n := 1; n <= greatest(fn); n++ {
			round(t, of(fn, n))
		}
		for at := 0; fn != 43 && at < 65536; at++ {
			a := of(fn, 1)
			a.At = at
			round(t, a)
		}
	}
	for n := range 65536 {
		w := uint16(n)
		a := of(23, 1)
		a.ReadAt, a.Words[0] = n, w
		round(t, a)
		round(t, api.Ask{Fn: 16, N: 2, Words: []uint16{w, ^w}})
		round(t, api.Ask{Fn: 6, Value: w})
		round(t, api.Ask{Fn: 22, And: w, Or: ^w})
	}
	for n := 1; n <= 125; n++ {
		a := of(23, 121)
		a.ReadN = n
		round(t, a)
	}
	for object := range 256 {
		for code := 1; code <= 4; code++ {
			round(t, api.Ask{Fn: 43, Code: code, Object: object})
		}
	}
}

func TestBytesComeThroughTheirRequest(t *testing.T) {
	for _, c := range ordinary {
		for i := range c.b {
			for v := range 256 {
				b := bytes.Clone(c.b)
				b[i] = byte(v)
				a, exc := ask.Parse(b)
				if exc != 0 {
					continue
				}
				got, e := ask.Bytes(a)
				if n := a.N % 8; a.Fn == 15 && n != 0 {
					b[len(b)-1] &= 1<<n - 1
				}
				if !bytes.Equal(got, b) || e != api.OK {
					t.Errorf("%v is parsed as %s, and that is %v, %d", b, short(a), got, e)
				}
			}
		}
	}
}
