package tell_test

import (
	"bytes"
	"fmt"
	"math"
	"reflect"
	"slices"
	"strings"
	"testing"

	"busbar/api"
	"busbar/ask"
	"busbar/tell"
)

// The numbers stand here as the chapters write them, and not by their names in package api.
var (
	known      = []int{1, 2, 3, 4, 5, 6, 15, 16, 22, 23, 43}
	exceptions = []int{1, 2, 3, 4, 6}
)

// ends are numbers that no field has, and that have others in their low bits.
var ends = []int{
	math.MinInt, math.MinInt + 1, math.MinInt + 2, math.MinInt32, -1 << 32, -65536, -65535, -256, -255, -1,
	1 << 16, 1<<16 + 1, 1<<31 + 1, 1<<32 + 1, 1 << 48, math.MaxInt - 1, math.MaxInt,
}

// ordinary is replies, how many bits were requested, and their bytes; at least one of each function.
var ordinary = []struct {
	t api.Tell
	n int
	b []byte
}{
	{api.Tell{Fn: 1, Bits: []bool{true, false, true}}, 3, []byte{1, 1, 5}},
	{api.Tell{Fn: 1, Bits: pattern(10)}, 10, []byte{1, 2, 0xcd, 0x01}},
	{api.Tell{Fn: 1, Bits: []bool{false}}, 1, []byte{1, 1, 0}},
	{api.Tell{Fn: 2, Bits: pattern(8)}, 8, []byte{2, 1, 0xcd}},
	{api.Tell{Fn: 2, Bits: append(make([]bool, 16), true)}, 17, []byte{2, 3, 0, 0, 1}},
	{api.Tell{Fn: 3, Words: []uint16{0x022b, 0, 100}}, 0, []byte{3, 6, 2, 0x2b, 0, 0, 0, 100}},
	{api.Tell{Fn: 3, Words: []uint16{0}}, 1, []byte{3, 2, 0, 0}},
	{api.Tell{Fn: 4, Words: []uint16{10}}, -1, []byte{4, 2, 0, 10}},
	{api.Tell{Fn: 4, Words: []uint16{0xabcd, 0xffff}}, 2001, []byte{4, 4, 0xab, 0xcd, 255, 255}},
	{api.Tell{Fn: 23, Words: []uint16{254, 0x0acd}}, 77, []byte{23, 4, 0, 254, 0x0a, 0xcd}},
	{api.Tell{Fn: 5, At: 172, Value: 1}, 0, []byte{5, 0, 172, 255, 0}},
	{api.Tell{Fn: 5, At: 0x1234}, 0, []byte{5, 0x12, 0x34, 0, 0}},
	{api.Tell{Fn: 5}, 0, []byte{5, 0, 0, 0, 0}},
	{api.Tell{Fn: 6, At: 1, Value: 3}, 0, []byte{6, 0, 1, 0, 3}},
	{api.Tell{Fn: 6, At: 0x1234, Value: 0xabcd}, 0, []byte{6, 0x12, 0x34, 0xab, 0xcd}},
	{api.Tell{Fn: 6}, 0, []byte{6, 0, 0, 0, 0}},
	{api.Tell{Fn: 15, At: 19, N: 10}, 0, []byte{15, 0, 19, 0, 10}},
	{api.Tell{Fn: 15, At: 0x1234, N: 0x0567}, 0, []byte{15, 0x12, 0x34, 0x05, 0x67}},
	{api.Tell{Fn: 16, At: 1, N: 2}, 0, []byte{16, 0, 1, 0, 2}},
	{api.Tell{Fn: 16, At: 65535, N: 123}, 0, []byte{16, 255, 255, 0, 123}},
	{api.Tell{Fn: 22, At: 4, And: 0xf2, Or: 0x25}, 0, []byte{22, 0, 4, 0, 0xf2, 0, 0x25}},
	{api.Tell{Fn: 22, At: 0x1234, And: 0x5678, Or: 0x9abc}, 0, []byte{22, 0x12, 0x34, 0x56, 0x78, 0x9a, 0xbc}},
	{api.Tell{Fn: 22}, 0, []byte{22, 0, 0, 0, 0, 0, 0}},
	{api.Tell{Fn: 43, Code: 1, Level: 129, Objects: []api.Object{{Id: 0, Value: "a"}, {Id: 1, Value: "bc"}, {Id: 2}}}, 0,
		[]byte{43, 14, 1, 129, 0, 0, 3, 0, 1, 'a', 1, 2, 'b', 'c', 2, 0}},
	{api.Tell{Fn: 43, Code: 2, Level: 130, More: true, Next: 200, Objects: []api.Object{{Id: 9, Value: "\x00\xff\x80"}}}, 3,
		[]byte{43, 14, 2, 130, 255, 200, 1, 9, 3, 0, 255, 128}},
	{api.Tell{Fn: 43, Code: 3, Level: 255, More: true, Next: 255, Objects: []api.Object{{Id: 255, Value: "x"}, {Id: 255, Value: "x"}}}, 0,
		[]byte{43, 14, 3, 255, 255, 255, 2, 255, 1, 'x', 255, 1, 'x'}},
	{api.Tell{Fn: 43, Code: 4, Next: 1}, 0, []byte{43, 14, 4, 0, 0, 1, 0}},
	{api.Tell{Fn: 3, Exc: 2}, 0, []byte{131, 2}},
	{api.Tell{Fn: 0, Exc: 1}, 0, []byte{128, 1}},
	{api.Tell{Fn: 127, Exc: 6}, 3, []byte{255, 6}},
	{api.Tell{Fn: 43, Exc: 4}, 0, []byte{171, 4}},
	{api.Tell{Fn: 1, Exc: 3}, -1, []byte{129, 3}},
}

// pattern is n bits that repeat the ten of 0xcd, 0x01.
func pattern(n int) []bool {
	ten := []bool{true, false, true, true, false, false, true, true, true, false}
	l := make([]bool, n)
	for i := range l {
		l[i] = ten[i%10]
	}
	return l
}

// counted is n words that differ.
func counted(n int) []uint16 {
	l := make([]uint16, n)
	for i := range l {
		l[i] = uint16(i*601 + 255)
	}
	return l
}

// filled is objects that take exactly n bytes of a reply, by as many as there are sizes and one more.
func filled(n int, sizes ...int) []api.Object {
	var l []api.Object
	for i, size := range sizes {
		l = append(l, api.Object{Id: i, Value: strings.Repeat("x", size)})
		n -= 2 + size
	}
	return append(l, api.Object{Id: 255, Value: strings.Repeat("y", n-2)})
}

// of is a valid reply of a function that has n values, if it has a number of them.
func of(fn, n int) api.Tell {
	t := api.Tell{Fn: fn}
	switch fn {
	case 1, 2:
		t.Bits = pattern(n)
	case 3, 4, 23:
		t.Words = counted(n)
	case 5, 6, 22:
		t.At = 7
	case 15, 16:
		t.At, t.N = 7, n
	case 43:
		t.Code = 1
	}
	return t
}

// greatest is how many values a function has at most, or 0 if it has no number of them.
func greatest(fn int) int {
	return map[int]int{1: 2000, 2: 2000, 3: 125, 4: 125, 23: 125, 15: 1968, 16: 123}[fn]
}

// same holds two replies against each other; lists of nothing are alike.
func same(a, b api.Tell) bool {
	lists := slices.Equal(a.Bits, b.Bits) && slices.Equal(a.Words, b.Words) && slices.Equal(a.Objects, b.Objects)
	a.Bits, a.Words, a.Objects = nil, nil, nil
	b.Bits, b.Words, b.Objects = nil, nil, nil
	return lists && reflect.DeepEqual(a, b)
}

func short(t api.Tell) string {
	if len(t.Bits)+len(t.Words)+len(t.Objects) < 20 {
		return fmt.Sprintf("%+v", t)
	}
	bits, words, objects := len(t.Bits), len(t.Words), len(t.Objects)
	t.Bits, t.Words, t.Objects = nil, nil, nil
	return fmt.Sprintf("%+v with %d bits, %d words, %d objects", t, bits, words, objects)
}

// valid wants x to be a reply.
func valid(t *testing.T, x api.Tell) {
	t.Helper()
	want := encoded(x)
	if b, e := tell.Bytes(x); !tell.Right(x) || !bytes.Equal(b, want) || len(b) > 253 || e != api.OK {
		t.Errorf("%s: Right %v, Bytes %v, %d; want %v", short(x), tell.Right(x), b, e, want)
	}
}

// invalid wants x to be none.
func invalid(t *testing.T, x api.Tell) {
	t.Helper()
	if b, e := tell.Bytes(x); tell.Right(x) || len(b) != 0 || e != api.ErrArg {
		t.Errorf("%s: Right %v, Bytes %v, %d; want none", short(x), tell.Right(x), b, e)
	}
}

// either wants x to be a reply if ok holds, and none otherwise.
func either(t *testing.T, x api.Tell, ok bool) {
	t.Helper()
	if ok {
		valid(t, x)
	} else {
		invalid(t, x)
	}
}

// encoded writes a reply down as the chapter's table says it, without the packages.
func encoded(t api.Tell) []byte {
	if t.Exc != 0 {
		return []byte{byte(t.Fn%128 + 128), byte(t.Exc)}
	}
	words := func(ns ...int) (b []byte) {
		for _, n := range ns {
			b = append(b, byte(n/256), byte(n%256))
		}
		return b
	}
	list := []byte{}
	for _, w := range t.Words {
		list = append(list, words(int(w))...)
	}
	for i, v := range t.Bits {
		if i%8 == 0 {
			list = append(list, 0)
		}
		if v {
			list[i/8] += []byte{1, 2, 4, 8, 16, 32, 64, 128}[i%8]
		}
	}
	rest := append([]byte{byte(len(list))}, list...)
	switch t.Fn {
	case 5:
		rest = append(words(t.At), 255*byte(t.Value), 0)
	case 6:
		rest = words(t.At, int(t.Value))
	case 15, 16:
		rest = words(t.At, t.N)
	case 22:
		rest = words(t.At, int(t.And), int(t.Or))
	case 43:
		more := map[bool]byte{true: 255}[t.More]
		rest = []byte{14, byte(t.Code), byte(t.Level), more, byte(t.Next), byte(len(t.Objects))}
		for _, o := range t.Objects {
			rest = append(append(rest, byte(o.Id), byte(len(o.Value))), o.Value...)
		}
	}
	return append([]byte{byte(t.Fn)}, rest...)
}

// Promise 6.1.

func TestBytesOfOrdinaryReplies(t *testing.T) {
	seen := map[int]bool{}
	for _, c := range ordinary {
		seen[c.t.Fn] = seen[c.t.Fn] || c.t.Exc == 0
		b, e := tell.Bytes(c.t)
		if !tell.Right(c.t) || !bytes.Equal(b, c.b) || e != api.OK {
			t.Errorf("%s: Right %v, Bytes %v, %d; want %v", short(c.t), tell.Right(c.t), b, e, c.b)
		}
	}
	for _, fn := range known {
		if !seen[fn] {
			t.Errorf("no reply of function %d", fn)
		}
	}
}

func TestRightRefusesOtherFunctions(t *testing.T) {
	others := slices.Clone(ends)
	for fn := -2; fn < 600; fn++ {
		if !slices.Contains(known, fn) {
			others = append(others, fn)
		}
	}
	for _, fn := range known {
		others = append(others, -fn, fn+256, fn+65536, fn+1<<32, fn+math.MinInt)
	}
	for _, fn := range others {
		invalid(t, api.Tell{Fn: fn})
		for _, c := range ordinary {
			if c.t.Exc == 0 {
				x := c.t
				x.Fn = fn
				invalid(t, x)
			}
		}
	}
}

func TestRightOfExceptions(t *testing.T) {
	for _, exc := range exceptions {
		for fn := -600; fn < 600; fn++ {
			x := api.Tell{Fn: fn, Exc: exc}
			if fn < 0 || fn > 255 {
				invalid(t, x)
				continue
			}
			b, e := tell.Bytes(x)
			if !tell.Right(x) || !bytes.Equal(b, []byte{byte(fn%128 + 128), byte(exc)}) || e != api.OK {
				t.Errorf("%s: Right %v, Bytes %v, %d", short(x), tell.Right(x), b, e)
			}
		}
		for _, fn := range ends {
			invalid(t, api.Tell{Fn: fn, Exc: exc})
		}
		for _, c := range ordinary {
			x := c.t
			x.Exc = exc
			either(t, x, same(x, api.Tell{Fn: x.Fn, Exc: exc}))
		}
	}
}

func TestRightOfExceptionsWithAnyOtherField(t *testing.T) {
	for _, exc := range exceptions {
		for _, fn := range append([]int{0, 7, 127, 128, 200, 255}, known...) {
			for _, f := range fields() {
				for _, set := range f.sets {
					x := api.Tell{Fn: fn, Exc: exc}
					if set(&x); !same(x, api.Tell{Fn: fn, Exc: exc}) {
						invalid(t, x)
					}
				}
			}
			valid(t, api.Tell{Fn: fn, Exc: exc, Bits: []bool{}, Words: make([]uint16, 0, 3), Objects: []api.Object{}})
		}
	}
}

func TestRightRefusesOtherExceptions(t *testing.T) {
	others := append(slices.Clone(ends), 128, 129, 255, 256, 257, 258)
	for exc := -10; exc < 300; exc++ {
		if exc != 0 && !slices.Contains(exceptions, exc) {
			others = append(others, exc)
		}
	}
	for _, exc := range others {
		for _, fn := range append([]int{-1, 0, 7, 127, 128, 255, 256}, known...) {
			invalid(t, api.Tell{Fn: fn, Exc: exc})
		}
		for _, c := range ordinary {
			x := c.t
			x.Exc = exc
			invalid(t, x)
		}
	}
}

func TestRightOfNumbersOfValues(t *testing.T) {
	for _, fn := range known {
		most := greatest(fn)
		if most == 0 {
			continue
		}
		for n := 1; n <= most; n++ {
			valid(t, of(fn, n))
		}
		for _, n := range []int{0, most + 1, most + 2, most + 8, 2 * most, 65536, 65537} {
			invalid(t, of(fn, n))
		}
	}
	for _, fn := range []int{15, 16} {
		for _, n := range ends {
			x := of(fn, 1)
			x.N = n
			invalid(t, x)
		}
	}
	// What 16 may write at most is less than 15, and what is read more than either is written.
	invalid(t, of(16, 1968))
	invalid(t, of(15, 2000))
	invalid(t, of(16, 125))
	invalid(t, of(3, 2000))
}

func TestRightOfAddresses(t *testing.T) {
	for _, fn := range []int{5, 6, 15, 16, 22} {
		for _, at := range []int{0, 1, 255, 256, 32767, 32768, 65534, 65535} {
			x := of(fn, 1)
			x.At = at
			valid(t, x)
		}
		for _, at := range ends {
			x := of(fn, 1)
			x.At = at
			invalid(t, x)
		}
	}
}

func TestRightOfWords(t *testing.T) {
	for v := range 1 << 16 {
		w := uint16(v)
		either(t, api.Tell{Fn: 5, At: 1, Value: w}, v <= 1)
		valid(t, api.Tell{Fn: 6, At: 1, Value: w})
		valid(t, api.Tell{Fn: 22, At: 1, And: w, Or: ^w})
		valid(t, api.Tell{Fn: 3, Words: []uint16{w, ^w}})
	}
}

func TestRightOfIdentification(t *testing.T) {
	numbers := slices.Clone(ends)
	for n := -300; n < 600; n++ {
		numbers = append(numbers, n)
	}
	two := []api.Object{{Id: 1, Value: "one"}, {Id: 2, Value: "two"}}
	for _, n := range numbers {
		isByte := 0 <= n && n <= 255
		for _, more := range []bool{false, true} {
			either(t, api.Tell{Fn: 43, Code: n, More: more, Objects: two}, 1 <= n && n <= 4)
			either(t, api.Tell{Fn: 43, Code: 1, Level: n, More: more}, isByte)
			either(t, api.Tell{Fn: 43, Code: 4, Next: n, More: more, Objects: two}, isByte)
			either(t, api.Tell{Fn: 43, Code: 4, More: more, Objects: []api.Object{{Id: n}}}, isByte)
			either(t, api.Tell{Fn: 43, Code: 4, More: more, Objects: []api.Object{{Id: n}, {Id: 2, Value: "a"}}}, isByte)
			either(t, api.Tell{Fn: 43, Code: 4, More: more, Objects: []api.Object{{Id: 2, Value: "a"}, {Id: n}}}, isByte)
		}
	}
}

func TestRightOfObjectsUpToTheirLast(t *testing.T) {
	with := func(l []api.Object) api.Tell {
		return api.Tell{Fn: 43, Code: 3, Level: 131, More: true, Next: 7, Objects: l}
	}
	for _, sizes := range [][]int{nil, {0}, {0, 0, 0}, {100}, {1, 2, 3}, {242}, {80, 80, 0}} {
		x := with(filled(246, sizes...))
		if b, e := tell.Bytes(x); len(b) != 253 || e != api.OK {
			t.Errorf("%v: %d bytes, %d; want 253", sizes, len(b), e)
		}
		valid(t, x)
		for _, n := range []int{247, 248, 249, 256 + 246, 65536 + 246} {
			invalid(t, with(filled(n, sizes...)))
		}
		// The longest at its end, at its beginning, and with an object of nothing more.
		x = with(filled(246, sizes...))
		slices.Reverse(x.Objects)
		valid(t, x)
		x.Objects = append(x.Objects, api.Object{})
		invalid(t, x)
		slices.Reverse(x.Objects)
		invalid(t, x)
	}
	valid(t, with(nil))
	valid(t, with(filled(245)))
	for n := range 300 {
		either(t, with(make([]api.Object, n)), n <= 123)
		either(t, with([]api.Object{{Value: strings.Repeat("z", n)}}), n <= 244)
	}
	// As many as a byte, or an object's length as a byte, can not tell.
	invalid(t, with(make([]api.Object, 1<<16)))
	invalid(t, with(make([]api.Object, 1<<16+1)))
	invalid(t, with([]api.Object{{Value: strings.Repeat("z", 1<<16)}}))
	invalid(t, with([]api.Object{{Value: strings.Repeat("z", 256)}, {}}))
}

// field is one that a reply has beside Fn and Exc, by how it is set.
type field struct {
	name string
	fns  []int // the functions that the table names it for
	sets []func(*api.Tell)
}

func numberField(name string, fns []int, at func(*api.Tell) *int) field {
	f := field{name: name, fns: fns}
	for _, n := range []int{1, -1, 2, 14, 255, 256, 65535, 65536, 1 << 32, math.MinInt, math.MaxInt} {
		f.sets = append(f.sets, func(t *api.Tell) { *at(t) = n })
	}
	return f
}

func wordField(name string, fns []int, at func(*api.Tell) *uint16) field {
	f := field{name: name, fns: fns}
	for _, w := range []uint16{1, 2, 255, 256, 0x8000, 65535} {
		f.sets = append(f.sets, func(t *api.Tell) { *at(t) = w })
	}
	return f
}

func fields() []field {
	return []field{
		numberField("At", []int{5, 6, 15, 16, 22}, func(t *api.Tell) *int { return &t.At }),
		numberField("N", []int{15, 16}, func(t *api.Tell) *int { return &t.N }),
		numberField("Code", []int{43}, func(t *api.Tell) *int { return &t.Code }),
		numberField("Level", []int{43}, func(t *api.Tell) *int { return &t.Level }),
		numberField("Next", []int{43}, func(t *api.Tell) *int { return &t.Next }),
		wordField("Value", []int{5, 6}, func(t *api.Tell) *uint16 { return &t.Value }),
		wordField("And", []int{22}, func(t *api.Tell) *uint16 { return &t.And }),
		wordField("Or", []int{22}, func(t *api.Tell) *uint16 { return &t.Or }),
		{"More", []int{43}, []func(*api.Tell){func(t *api.Tell) { t.More = true }}},
		{"Bits", []int{1, 2}, []func(*api.Tell){
			func(t *api.Tell) { t.Bits = []bool{false} },
			func(t *api.Tell) { t.Bits = []bool{true} },
			func(t *api.Tell) { t.Bits = pattern(10) },
			func(t *api.Tell) { t.Bits = make([]bool, max(0, min(t.N, 2000))) },
		}},
		{"Words", []int{3, 4, 23}, []func(*api.Tell){
			func(t *api.Tell) { t.Words = []uint16{0} },
			func(t *api.Tell) { t.Words = []uint16{1} },
			func(t *api.Tell) { t.Words = counted(10) },
			func(t *api.Tell) { t.Words = make([]uint16, max(0, min(t.N, 2000))) },
		}},
		{"Objects", []int{43}, []func(*api.Tell){
			func(t *api.Tell) { t.Objects = []api.Object{{}} },
			func(t *api.Tell) { t.Objects = []api.Object{{Id: 1, Value: "a"}} },
			func(t *api.Tell) { t.Objects = make([]api.Object, 123) },
		}},
	}
}

func TestRightRefusesWhatTheTableDoesNotName(t *testing.T) {
	names := reflect.TypeFor[api.Tell]().NumField() - 2 // all but Fn and Exc
	if len(fields()) != names {
		t.Errorf("%d fields are asked for, a reply has %d", len(fields()), names)
	}
	for _, c := range ordinary {
		for _, f := range fields() {
			if c.t.Exc == 0 && slices.Contains(f.fns, c.t.Fn) {
				continue
			}
			for _, set := range f.sets {
				x := c.t
				if set(&x); !same(x, c.t) {
					invalid(t, x)
				}
			}
		}
	}
}

func TestRightTakesEmptyListsForNone(t *testing.T) {
	for _, c := range ordinary {
		x := c.t
		if x.Bits == nil {
			x.Bits = []bool{}
		}
		if x.Words == nil {
			x.Words = make([]uint16, 0, 4)
		}
		if x.Objects == nil {
			x.Objects = make([]api.Object, 0, 2)
		}
		if b, e := tell.Bytes(x); !tell.Right(x) || !bytes.Equal(b, c.b) || e != api.OK {
			t.Errorf("%s with empty lists: %v, %d", short(c.t), b, e)
		}
	}
}

func TestBytesChangesNothingAndIsNewMemory(t *testing.T) {
	for _, c := range ordinary {
		x := c.t
		// Room behind the lists, which belongs to the caller.
		flags, words := append(slices.Clone(x.Bits), true, false, true), append(slices.Clone(x.Words), 7, 8, 9)
		objects := append(slices.Clone(x.Objects), api.Object{Id: 5, Value: "five"})
		x.Bits, x.Words, x.Objects = flags[:len(x.Bits)], words[:len(x.Words)], objects[:len(x.Objects)]
		wasFlags, wasWords, wasObjects := slices.Clone(flags), slices.Clone(words), slices.Clone(objects)
		tell.Right(x)
		first, _ := tell.Bytes(x)
		second, _ := tell.Bytes(x)
		spoil(first)
		if !bytes.Equal(second, c.b) {
			t.Errorf("%s: two results share memory: %v", short(c.t), second)
		}
		if !slices.Equal(flags, wasFlags) || !slices.Equal(words, wasWords) || !slices.Equal(objects, wasObjects) {
			t.Errorf("%s: the lists became %v, %v, %v", short(c.t), flags, words, objects)
		}
	}
}

// spoil overwrites b and the spare capacity behind it.
func spoil(b []byte) {
	b = b[:cap(b)]
	for i := range b {
		b[i] = 0xEE
	}
}

// Promise 6.2.

// parses wants b to be the bytes of x.
func parses(t *testing.T, b []byte, n int, x api.Tell) {
	t.Helper()
	if got, e := tell.Parse(b, n); !same(got, x) || e != api.OK {
		t.Errorf("Parse(%v, %d) = %s, %d; want %s", b, n, short(got), e, short(x))
	}
}

// fails wants b to be no reply.
func fails(t *testing.T, b []byte, n int) {
	t.Helper()
	if got, e := tell.Parse(b, n); !same(got, api.Tell{}) || e != api.ErrForm {
		t.Errorf("Parse(%v, %d) = %s, %d; want ErrForm", b, n, short(got), e)
	}
}

func TestParseOrdinaryReplies(t *testing.T) {
	for _, c := range ordinary {
		parses(t, c.b, c.n, c.t)
	}
}

func TestParseOfNothingAndOfOneByte(t *testing.T) {
	for _, n := range []int{math.MinInt, -1, 0, 1, 8, 2000, 2001, math.MaxInt} {
		fails(t, nil, n)
		fails(t, []byte{}, n)
		fails(t, []byte{131, 2}[:0], n)
		for v := range 256 {
			fails(t, []byte{byte(v)}, n)
			fails(t, []byte{byte(v), 2, 0, 0, 0, 0, 0}[:1], n)
		}
	}
}

func TestParseOfOtherFunctions(t *testing.T) {
	for fn := range 128 {
		if slices.Contains(known, fn) {
			continue
		}
		for v := range 256 {
			fails(t, []byte{byte(fn), byte(v)}, 0)
		}
		for _, c := range ordinary {
			b := bytes.Clone(c.b)
			b[0] = byte(fn)
			fails(t, b, c.n)
		}
	}
}

func TestParseOfMoreAndLess(t *testing.T) {
	list := slices.Clone(ordinary)
	add := func(x api.Tell, n int) {
		list = append(list, struct {
			t api.Tell
			n int
			b []byte
		}{x, n, encoded(x)})
	}
	for _, fn := range known {
		if n := greatest(fn); n > 0 {
			add(of(fn, n), n)
		}
	}
	add(api.Tell{Fn: 43, Code: 1, Objects: filled(246)}, 0)
	add(api.Tell{Fn: 43, Code: 1, Objects: filled(246, 100, 0)}, 0)
	add(api.Tell{Fn: 43, Code: 1, Objects: make([]api.Object, 123)}, 0)
	for _, c := range list {
		parses(t, c.b, c.n, c.t)
		for n := range len(c.b) {
			fails(t, c.b[:n], c.n) // what stands behind the n bytes is no part of them
			fails(t, bytes.Clone(c.b[:n]), c.n)
		}
		for _, more := range []byte{0, 1, 14, 255} {
			fails(t, append(bytes.Clone(c.b), more), c.n)
			fails(t, append(bytes.Clone(c.b), more, 0), c.n)
		}
		for _, more := range []int{256, 1 << 16} {
			fails(t, append(bytes.Clone(c.b), make([]byte, more)...), c.n)
		}
	}
}

func TestParseOfBits(t *testing.T) {
	numbers := append([]int{0, -1, -7, -8, 2001, 2002, 2008, 2040, 2048}, ends...)
	for n := 1; n <= 2000; n++ {
		numbers = append(numbers, n)
	}
	for _, fn := range []int{1, 2} {
		for size := range 260 {
			b := append([]byte{byte(fn), byte(size)}, bytes.Repeat([]byte{0x5a}, size)...)
			for _, n := range numbers {
				if size == 0 || n <= 8*(size-1) || n > 8*size || n > 2000 || size > 250 {
					fails(t, b, n)
					continue
				}
				got, e := tell.Parse(b, n)
				want := api.Tell{Fn: fn}
				for i := range n {
					want.Bits = append(want.Bits, b[2+i/8]>>(i%8)&1 == 1)
				}
				if !same(got, want) || e != api.OK {
					t.Fatalf("Parse of %d bytes of %d bits: %s, %d", size, n, short(got), e)
				}
			}
		}
		// No bits, and more than a reply has, with bytes that agree.
		fails(t, []byte{byte(fn), 0}, 0)
		fails(t, []byte{byte(fn), 1, 0}, 0)
		fails(t, append([]byte{byte(fn), 251}, make([]byte, 251)...), 2001)
		fails(t, append([]byte{byte(fn), 251}, make([]byte, 251)...), 2008)
		fails(t, append([]byte{byte(fn), 0}, make([]byte, 256)...), 2048)
	}
}

func TestParseDoesNotMindTheBitsBehindTheLast(t *testing.T) {
	for _, fn := range []int{1, 2} {
		for _, n := range []int{1, 2, 3, 7, 8, 9, 15, 16, 17, 1993, 1999, 2000} {
			x := of(fn, n)
			b := encoded(x)
			for i := n; i%8 != 0; i++ {
				one := bytes.Clone(b)
				one[len(one)-1] |= 1 << (i % 8)
				parses(t, one, n, x)
			}
			all := bytes.Clone(b)
			for i := n; i%8 != 0; i++ {
				all[len(all)-1] |= 1 << (i % 8)
			}
			parses(t, all, n, x)
			// The last one that was requested does matter.
			all[len(all)-1] ^= 1 << ((n - 1) % 8)
			x.Bits[n-1] = !x.Bits[n-1]
			parses(t, all, n, x)
		}
	}
}

func TestParseOfLists(t *testing.T) {
	for _, fn := range []int{1, 2, 3, 4, 23} {
		for told := range 256 {
			for size := range 260 {
				b := append([]byte{byte(fn), byte(told)}, make([]byte, size)...)
				n := 8 * size
				switch {
				case told != size || size == 0 || size > 250 || fn > 2 && size%2 == 1:
					fails(t, b, n)
				case fn <= 2:
					parses(t, b, n, api.Tell{Fn: fn, Bits: make([]bool, n)})
				default:
					parses(t, b, n, api.Tell{Fn: fn, Words: make([]uint16, size/2)})
				}
			}
		}
	}
}

func TestParseOfWords(t *testing.T) {
	for w := range 1 << 16 {
		hi, lo, v := byte(w>>8), byte(w), uint16(w)
		switch b := []byte{5, 0, 172, hi, lo}; w {
		case 0xff00:
			parses(t, b, 0, api.Tell{Fn: 5, At: 172, Value: 1})
		case 0:
			parses(t, b, 0, api.Tell{Fn: 5, At: 172})
		default:
			fails(t, b, 0)
		}
		for _, fn := range []int{15, 16} {
			if b := []byte{byte(fn), 1, 2, hi, lo}; 1 <= w && w <= greatest(fn) {
				parses(t, b, 0, api.Tell{Fn: fn, At: 258, N: w})
			} else {
				fails(t, b, 0)
			}
			parses(t, []byte{byte(fn), hi, lo, 0, 1}, 0, api.Tell{Fn: fn, At: w, N: 1})
		}
		parses(t, []byte{5, hi, lo, 255, 0}, 0, api.Tell{Fn: 5, At: w, Value: 1})
		parses(t, []byte{6, hi, lo, lo, hi}, 0, api.Tell{Fn: 6, At: w, Value: v>>8 | v<<8})
		parses(t, []byte{22, hi, lo, lo, hi, ^hi, ^lo}, 0, api.Tell{Fn: 22, At: w, And: v>>8 | v<<8, Or: ^v})
		parses(t, []byte{23, 2, hi, lo}, 0, api.Tell{Fn: 23, Words: []uint16{v}})
	}
}

func TestParseOfIdentification(t *testing.T) {
	for v := range 256 {
		either := func(b []byte, ok bool, x api.Tell) {
			t.Helper()
			if ok {
				parses(t, b, 0, x)
			} else {
				fails(t, b, 0)
			}
		}
		w := byte(v)
		either([]byte{43, w, 4, 0, 0, 0, 0}, v == 14, api.Tell{Fn: 43, Code: 4})
		either([]byte{43, 14, w, 0, 0, 0, 0}, 1 <= v && v <= 4, api.Tell{Fn: 43, Code: v})
		either([]byte{43, 14, 4, w, 0, 0, 0}, true, api.Tell{Fn: 43, Code: 4, Level: v})
		either([]byte{43, 14, 4, 0, w, 0, 0}, v == 0 || v == 255, api.Tell{Fn: 43, Code: 4, More: v == 255})
		either([]byte{43, 14, 4, 0, 0, w, 0}, true, api.Tell{Fn: 43, Code: 4, Next: v})
		// A number of objects, and of an object's bytes, that does not agree with the bytes.
		either([]byte{43, 14, 4, 0, 0, 0, w}, v == 0, api.Tell{Fn: 43, Code: 4})
		one := []api.Object{{Id: 7, Value: "abc"}}
		either([]byte{43, 14, 4, 0, 0, 0, w, 7, 3, 'a', 'b', 'c'}, v == 1, api.Tell{Fn: 43, Code: 4, Objects: one})
		either([]byte{43, 14, 4, 0, 0, 0, 1, 7, w, 'a', 'b', 'c'}, v == 3, api.Tell{Fn: 43, Code: 4, Objects: one})
		one[0].Id = v
		either([]byte{43, 14, 4, 0, 0, 0, 1, w, 3, 'a', 'b', 'c'}, true, api.Tell{Fn: 43, Code: 4, Objects: one})
		one = []api.Object{{Id: 7, Value: strings.Repeat("q", v)}}
		either(append([]byte{43, 14, 4, 0, 0, 0, 1, 7, w}, one[0].Value...), v <= 244, api.Tell{Fn: 43, Code: 4, Objects: one})
		many := make([]api.Object, v)
		either(append([]byte{43, 14, 4, 0, 0, 0, w}, make([]byte, 2*v)...), v <= 123, api.Tell{Fn: 43, Code: 4, Objects: many})
	}
	// The lengths agree with the end of the bytes, but not with the number of objects.
	fails(t, []byte{43, 14, 4, 0, 0, 0, 1, 1, 1, 'a', 2, 1, 'b'}, 0)
	fails(t, []byte{43, 14, 4, 0, 0, 0, 3, 1, 1, 'a', 2, 1, 'b'}, 0)
	fails(t, []byte{43, 14, 4, 0, 0, 0, 2, 1, 2, 'a', 2, 1, 'b'}, 0)
	fails(t, []byte{43, 14, 4, 0, 0, 0, 2, 1, 1, 'a', 2, 2, 'b'}, 0)
	fails(t, []byte{43, 14, 4, 0, 0, 0, 2, 1, 1, 'a', 2, 0, 'b'}, 0)
	parses(t, []byte{43, 14, 4, 0, 0, 0, 2, 1, 1, 'a', 2, 1, 'b'}, 0,
		api.Tell{Fn: 43, Code: 4, Objects: []api.Object{{Id: 1, Value: "a"}, {Id: 2, Value: "b"}}})
	// A reply of 254 bytes, in several ways.
	for _, sizes := range [][]int{nil, {0}, {100, 20}} {
		fails(t, encoded(api.Tell{Fn: 43, Code: 4, Objects: filled(247, sizes...)}), 0)
	}
}

func TestParseOfExceptions(t *testing.T) {
	for fn := 128; fn < 256; fn++ {
		for exc := range 256 {
			b := []byte{byte(fn), byte(exc)}
			for _, n := range []int{-1, 0, 1, 2001} {
				if slices.Contains(exceptions, exc) {
					parses(t, b, n, api.Tell{Fn: fn - 128, Exc: exc})
				} else {
					fails(t, b, n)
				}
			}
			fails(t, append(b, 0), 0)
			fails(t, []byte{byte(fn), 2, byte(exc)}, 0)
		}
		// With the bytes of an ordinary reply it is none.
		for _, c := range ordinary {
			if len(c.b) > 2 {
				b := bytes.Clone(c.b)
				b[0] = byte(fn)
				fails(t, b, c.n)
			}
		}
	}
}

// model is what the chapter says of bytes, by looking for the reply among those that could be meant.
func model(b []byte, n int) (api.Tell, api.Errno) {
	if len(b) == 0 {
		return api.Tell{}, api.ErrForm
	}
	long := append(bytes.Clone(b), make([]byte, 600)...)
	w := func(at int) int { return int(long[at])*256 + int(long[at+1]) }
	x := api.Tell{Fn: int(b[0])}
	switch x.Fn {
	case 1, 2:
		for i := range max(0, min(n, 2001)) {
			x.Bits = append(x.Bits, long[2+i/8]>>(i%8)&1 == 1)
		}
		if n > 0 && n%8 != 0 && len(b) > 2 {
			b = bytes.Clone(b)
			b[len(b)-1] &= 1<<(n%8) - 1
		}
	case 3, 4, 23:
		for i := range int(long[1]) / 2 {
			x.Words = append(x.Words, uint16(w(2+2*i)))
		}
	case 5:
		x.At, x.Value = w(1), uint16(long[3]&1)
	case 6:
		x.At, x.Value = w(1), uint16(w(3))
	case 15, 16:
		x.At, x.N = w(1), w(3)
	case 22:
		x.At, x.And, x.Or = w(1), uint16(w(3)), uint16(w(5))
	case 43:
		x.Code, x.Level, x.More, x.Next = int(long[2]), int(long[3]), long[4] == 255, int(long[5])
		at := 7
		for range long[6] {
			end := at + 2 + int(long[at+1])
			if end > len(b) {
				break // as it has fewer objects than it tells, its bytes will be others
			}
			x.Objects = append(x.Objects, api.Object{Id: int(long[at]), Value: string(long[at+2 : end])})
			at = end
		}
	default:
		x.Fn, x.Exc = x.Fn%128, int(long[1])
	}
	if !tell.Right(x) || !bytes.Equal(encoded(x), b) {
		return api.Tell{}, api.ErrForm
	}
	return x, api.OK
}

func TestParseOfEveryByteInEachPlace(t *testing.T) {
	hits := 0
	for _, c := range ordinary {
		for i := range c.b {
			for v := range 256 {
				for _, n := range []int{c.n, c.n + 1, c.n - 1, 8, 24} {
					b := bytes.Clone(c.b)
					b[i] = byte(v)
					want, errno := model(b, n)
					if got, e := tell.Parse(b, n); !same(got, want) || e != errno {
						t.Errorf("Parse(%v, %d) = %s, %d; want %s, %d", b, n, short(got), e, short(want), errno)
					}
					if errno == api.OK {
						hits++
					}
				}
			}
		}
	}
	if hits < 1000 {
		t.Error("only", hits, "of them are replies")
	}
}

func TestParseOfEveryTwoBytes(t *testing.T) {
	for v := range 1 << 16 {
		b := []byte{byte(v >> 8), byte(v)}
		want, errno := model(b, 0)
		if got, e := tell.Parse(b, 0); !same(got, want) || e != errno {
			t.Errorf("Parse(%v) = %s, %d; want %s, %d", b, short(got), e, short(want), errno)
		}
	}
}

func TestParseChangesNothingAndKeepsNothing(t *testing.T) {
	for _, c := range ordinary {
		room := append(bytes.Clone(c.b), 1, 2, 3, 4)
		was := bytes.Clone(room)
		for n := range len(room) + 1 {
			tell.Parse(room[:n], c.n)
			if !bytes.Equal(room, was) {
				t.Fatalf("Parse of %d bytes made %v of %v", n, room, was)
			}
		}
		first, _ := tell.Parse(room[:len(c.b)], c.n)
		second, _ := tell.Parse(room[:len(c.b)], c.n)
		spoil(room)
		if !same(first, c.t) || !same(second, c.t) {
			t.Errorf("%v: a reply changed with its bytes: %s", c.b, short(first))
		}
		spoilLists(first)
		if !same(second, c.t) {
			t.Errorf("%v: two replies share memory: %s", c.b, short(second))
		}
	}
}

// spoilLists overwrites the lists of x and the spare capacity behind them.
func spoilLists(x api.Tell) {
	for i, v := range x.Bits[:cap(x.Bits)] {
		x.Bits[:cap(x.Bits)][i] = !v
	}
	for i, v := range x.Words[:cap(x.Words)] {
		x.Words[:cap(x.Words)][i] = ^v
	}
	for i := range x.Objects[:cap(x.Objects)] {
		x.Objects[:cap(x.Objects)][i] = api.Object{Id: -1, Value: "spoilt"}
	}
}

// Promise 6.3.

// requests is valid ones, at least one of each function, and the replies that confirm them.
var requests = []struct {
	a    api.Ask
	want api.Tell
}{
	{api.Ask{Fn: 5, At: 3, Value: 1}, api.Tell{Fn: 5, At: 3, Value: 1}},
	{api.Ask{Fn: 5, At: 65535}, api.Tell{Fn: 5, At: 65535}},
	{api.Ask{Fn: 5}, api.Tell{Fn: 5}},
	{api.Ask{Fn: 6, At: 3, Value: 0xabcd}, api.Tell{Fn: 6, At: 3, Value: 0xabcd}},
	{api.Ask{Fn: 6}, api.Tell{Fn: 6}},
	{api.Ask{Fn: 15, At: 19, N: 10, Bits: pattern(10)}, api.Tell{Fn: 15, At: 19, N: 10}},
	{api.Ask{Fn: 15, At: 65535, N: 1968, Bits: pattern(1968)}, api.Tell{Fn: 15, At: 65535, N: 1968}},
	{api.Ask{Fn: 15, N: 1, Bits: []bool{false}}, api.Tell{Fn: 15, N: 1}},
	{api.Ask{Fn: 16, At: 1, N: 2, Words: []uint16{10, 258}}, api.Tell{Fn: 16, At: 1, N: 2}},
	{api.Ask{Fn: 16, At: 65535, N: 123, Words: counted(123)}, api.Tell{Fn: 16, At: 65535, N: 123}},
	{api.Ask{Fn: 22, At: 4, And: 0xf2, Or: 0x25}, api.Tell{Fn: 22, At: 4, And: 0xf2, Or: 0x25}},
	{api.Ask{Fn: 22}, api.Tell{Fn: 22}},
	// These are valid, and their replies tell more than a confirmation.
	{api.Ask{Fn: 1, At: 19, N: 37}, api.Tell{}},
	{api.Ask{Fn: 2, At: 196, N: 22}, api.Tell{}},
	{api.Ask{Fn: 3, At: 107, N: 3}, api.Tell{}},
	{api.Ask{Fn: 4, At: 8, N: 1}, api.Tell{}},
	{api.Ask{Fn: 23, ReadAt: 3, ReadN: 6, At: 14, N: 3, Words: counted(3)}, api.Tell{}},
	{api.Ask{Fn: 43, Code: 1}, api.Tell{}},
	{api.Ask{Fn: 43, Code: 4, Object: 255}, api.Tell{}},
}

func TestEcho(t *testing.T) {
	seen := map[int]bool{}
	for _, c := range requests {
		seen[c.a.Fn] = true
		if !ask.Right(c.a) {
			t.Errorf("%+v is not valid", c.a)
		}
		if got := tell.Echo(c.a); !same(got, c.want) {
			t.Errorf("Echo(%+v) = %s; want %s", c.a, short(got), short(c.want))
		}
	}
	for _, fn := range known {
		if !seen[fn] {
			t.Errorf("no request of function %d", fn)
		}
	}
}

// hold wants Echo to confirm a if, and only if, it is valid and of a function that is confirmed.
func hold(t *testing.T, a api.Ask) {
	t.Helper()
	want := api.Tell{}
	if ask.Right(a) && slices.Contains([]int{5, 6, 15, 16, 22}, a.Fn) {
		want = api.Tell{Fn: a.Fn, At: a.At, N: a.N, Value: a.Value, And: a.And, Or: a.Or}
	}
	if got := tell.Echo(a); !same(got, want) {
		t.Errorf("Echo(Fn %d, At %d, N %d, Value %d, And %d, Or %d, %d bits, %d words, %d %d %d %d) = %s; want %s", a.Fn, a.At,
			a.N, a.Value, a.And, a.Or, len(a.Bits), len(a.Words), a.ReadAt, a.ReadN, a.Code, a.Object, short(got), short(want))
	}
}

// changed is a with one field after the other at each of the numbers.
func changed(a api.Ask, numbers []int) []api.Ask {
	var l []api.Ask
	for _, n := range numbers {
		for i := range 9 {
			x := a
			switch i {
			case 0:
				x.Fn = n
			case 1:
				x.At = n
			case 2:
				x.N = n
			case 3:
				x.ReadAt = n
			case 4:
				x.ReadN = n
			case 5:
				x.Code = n
			case 6:
				x.Object = n
			case 7:
				x.Value = uint16(n)
			case 8:
				x.And, x.Or = uint16(n), uint16(n>>1)
			}
			l = append(l, x)
		}
		if 0 <= n && n <= 3000 {
			x, y := a, a
			x.Bits, y.Words = make([]bool, n), make([]uint16, n)
			l = append(l, x, y)
		}
	}
	return l
}

func TestEchoOfRequestsThatAreNotValid(t *testing.T) {
	numbers := append([]int{0, 1, 2, 3, 5, 6, 9, 10, 11, 15, 16, 22, 23, 43, 121, 123, 124, 125, 126, 133, 255, 256, 1967, 1968,
		1969, 2000, 2001, 65534, 65535, 65536}, ends...)
	for _, c := range requests {
		for _, a := range changed(c.a, numbers) {
			hold(t, a)
			// Another field that makes up for the first, or not.
			for _, x := range changed(a, []int{0, 1, 15, 16, 123}) {
				hold(t, x)
			}
		}
	}
	for _, a := range []api.Ask{
		{}, {At: 1}, {Fn: 7, At: 1}, {Fn: 133, At: 1}, {Fn: 5, Value: 2}, {Fn: 5, At: -1}, {Fn: 6, At: 65536}, {Fn: 6, N: 1},
		{Fn: 15, N: 2, Bits: pattern(1)}, {Fn: 15, N: 1969, Bits: pattern(1969)}, {Fn: 15}, {Fn: 16, N: 124, Words: counted(124)},
		{Fn: 16, N: 1}, {Fn: 16, N: 1, Words: counted(1), Bits: pattern(1)}, {Fn: 22, Value: 1}, {Fn: 22, At: 1, ReadN: 1},
		{Fn: 6, Code: 1}, {Fn: 6, Object: 1}, {Fn: 15, N: 1, Words: counted(1)}, {Fn: 6, Words: counted(1)}, {Fn: 5, Bits: pattern(1)},
	} {
		if ask.Right(a) {
			t.Errorf("%+v is valid", a)
		}
		if got := tell.Echo(a); !same(got, api.Tell{}) {
			t.Errorf("Echo(%+v) = %s; want nothing", a, short(got))
		}
	}
}

func TestEchoHasTheBytesOfItsRequest(t *testing.T) {
	for _, c := range requests {
		if c.want.Fn == 0 {
			continue
		}
		q, _ := ask.Bytes(c.a)
		b, e := tell.Bytes(tell.Echo(c.a))
		// As in the request; of 15 and 16 what stands ahead of the list.
		if e != api.OK || len(b) > len(q) || !bytes.Equal(b, q[:len(b)]) || len(b) != len(q) && len(b) != 5 {
			t.Errorf("%v is confirmed by %v, %d", q, b, e)
		}
	}
}

func TestFail(t *testing.T) {
	if b, e := tell.Bytes(tell.Fail(3, 2)); !bytes.Equal(b, []byte{131, 2}) || e != api.OK {
		t.Errorf("%v, %d", b, e)
	}
	numbers := append([]int{0, 1, 2, 3, 4, 5, 6, 7, 43, 99, 127, 128, 255, 256}, ends...)
	for _, fn := range numbers {
		for _, exc := range numbers {
			if got := tell.Fail(fn, exc); !same(got, api.Tell{Fn: fn, Exc: exc}) {
				t.Errorf("Fail(%d, %d) = %s", fn, exc, short(got))
			}
		}
	}
}

// Promise 6.4.

// round wants x to come through its bytes as it was.
func round(t *testing.T, x api.Tell) {
	t.Helper()
	b, e := tell.Bytes(x)
	got, f := tell.Parse(b, len(x.Bits))
	again, g := tell.Bytes(got)
	if e != api.OK || f != api.OK || g != api.OK || !same(got, x) || !bytes.Equal(again, b) {
		t.Fatalf("%s: %v, %d; parsed as %s, %d; %v, %d", short(x), b, e, short(got), f, again, g)
	}
}

func TestRepliesComeThroughTheirBytes(t *testing.T) {
	for _, c := range ordinary {
		round(t, c.t)
	}
	for _, fn := range known {
		for n := 1; n <= greatest(fn); n++ {
			round(t, of(fn, n))
		}
	}
	for n := range 1 << 16 {
		w := uint16(n)
		for _, fn := range []int{5, 6, 15, 16, 22} {
			x := of(fn, 1)
			x.At = n
			round(t, x)
		}
		for _, fn := range []int{3, 4, 23} {
			round(t, api.Tell{Fn: fn, Words: []uint16{w, ^w}})
		}
		round(t, api.Tell{Fn: 6, Value: w})
		round(t, api.Tell{Fn: 22, And: w, Or: ^w})
		two := []api.Object{{Id: n >> 8}, {Id: n & 255, Value: string([]byte{byte(n)})}}
		round(t, api.Tell{Fn: 43, Code: 1 + n%4, Level: n >> 8, Next: n & 255, More: n%3 == 0, Objects: two})
	}
	for n := 2; n <= 246; n++ {
		round(t, api.Tell{Fn: 43, Code: 4, Objects: filled(n)})
	}
	for n := 1; n <= 123; n++ {
		round(t, api.Tell{Fn: 43, Code: 4, Objects: make([]api.Object, n)})
	}
}

func TestExceptionsComeThroughTheirBytes(t *testing.T) {
	for _, exc := range exceptions {
		for fn := range 128 {
			round(t, tell.Fail(fn, exc))
		}
		for fn := 128; fn < 256; fn++ {
			// The bit that marks an exception is not told apart from one that the function had.
			b, e := tell.Bytes(tell.Fail(fn, exc))
			got, f := tell.Parse(b, 0)
			if !bytes.Equal(b, []byte{byte(fn), byte(exc)}) || !same(got, tell.Fail(fn-128, exc)) || e != api.OK || f != api.OK {
				t.Errorf("function %d, exception %d: %v, %d; %s, %d", fn, exc, b, e, short(got), f)
			}
		}
	}
}

func TestBytesComeThroughTheirReply(t *testing.T) {
	for _, c := range ordinary {
		for i := range c.b {
			for v := range 256 {
				b := bytes.Clone(c.b)
				b[i] = byte(v)
				x, e := tell.Parse(b, c.n)
				if e != api.OK {
					continue
				}
				got, f := tell.Bytes(x)
				if n := len(x.Bits) % 8; n != 0 {
					b[len(b)-1] &= 1<<n - 1
				}
				if !bytes.Equal(got, b) || f != api.OK {
					t.Errorf("%v is parsed as %s, and that is %v, %d", b, short(x), got, f)
				}
			}
		}
	}
}
