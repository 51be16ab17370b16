package iden_test

import (
	"fmt"
	"math"
	"reflect"
	"slices"
	"strings"
	"testing"

	"busbar/api"
	"busbar/iden"
	"busbar/tell"
)

// ends are numbers that no Id, Code or Object is, and that have others in their low bits.
var ends = []int{
	math.MinInt, math.MinInt + 1, math.MinInt + 2, math.MinInt32, -1 << 32, -65536, -65535, -256, -255, -254, -2, -1,
	256, 257, 258, 259, 260, 511, 512, 1 << 16, 1<<16 + 1, 1<<31 + 1, 1<<32 + 1, 1<<32 + 4, math.MaxInt - 1, math.MaxInt,
}

func text(n int) string { return strings.Repeat("x", n) }

// of is objects with these Ids, whose Values differ.
func of(ids ...int) []api.Object {
	var l []api.Object
	for _, id := range ids {
		l = append(l, api.Object{Id: id, Value: fmt.Sprint("v", id)})
	}
	return l
}

// sized is objects with the Ids 0, 1, 2 and so on, whose Values have so many bytes.
func sized(sizes ...int) []api.Object {
	var l []api.Object
	for id, n := range sizes {
		l = append(l, api.Object{Id: id, Value: text(n)})
	}
	return l
}

// every is objects with all Ids, whose Values have so many bytes.
func every(size int) []api.Object {
	return sized(slices.Repeat([]int{size}, 256)...)
}

func ids(l []api.Object) []int {
	r := []int{}
	for _, o := range l {
		r = append(r, o.Id)
	}
	return r
}

// same holds two replies against each other; lists of nothing are alike.
func same(a, b api.Tell) bool {
	lists := slices.Equal(a.Bits, b.Bits) && slices.Equal(a.Words, b.Words) && slices.Equal(a.Objects, b.Objects)
	a.Bits, a.Words, a.Objects = nil, nil, nil
	b.Bits, b.Words, b.Objects = nil, nil, nil
	return lists && reflect.DeepEqual(a, b)
}

func short(t api.Tell) string {
	l := ids(t.Objects)
	t.Objects = nil
	return fmt.Sprintf("%+v with the objects %v", t, l)
}

// lists is such that Check takes.
func lists() [][]api.Object {
	l := [][]api.Object{
		of(0, 1, 2), sized(0, 0, 0), sized(244, 244, 244), sized(80, 80, 80), sized(80, 80, 81), sized(81, 80, 80),
		of(0, 1, 2, 3), of(0, 1, 2, 126), of(0, 1, 2, 127), of(0, 1, 2, 128), of(0, 1, 2, 255), of(0, 1, 2, 5, 127, 128, 200, 255),
		of(0, 1, 2, 3, 4, 5, 6, 127, 128, 129), of(0, 1, 2, 200), sized(244, 0, 244, 0, 244), sized(0, 244, 0, 244),
		sized(242, 0, 0, 242, 0), sized(243, 0, 243, 0), sized(100, 142, 0), sized(100, 141, 1, 0, 242), sized(100, 143, 0),
	}
	for _, n := range []int{0, 1, 2, 10, 100, 120, 121, 122, 243, 244} {
		l = append(l, every(n))
	}
	for step := 1; step < 60; step += 7 {
		x := of(0, 1, 2)
		for id := 3; id < 256; id += step {
			x = append(x, api.Object{Id: id, Value: text(id * step * 31 % 245)})
		}
		l = append(l, x)
	}
	return l
}

// Promise 7.1.

func checks(t *testing.T, l []api.Object, want api.Errno) {
	t.Helper()
	if e := iden.Check(l); e != want {
		t.Errorf("Check of the Ids %v = %d; want %d", ids(l), e, want)
	}
}

func TestCheckTakesLists(t *testing.T) {
	for _, l := range lists() {
		checks(t, l, api.OK)
	}
	for id := 3; id < 256; id++ {
		checks(t, of(0, 1, 2, id), api.OK)
	}
	checks(t, []api.Object{{Id: 0, Value: "\x00\xff"}, {Id: 1, Value: "ä"}, {Id: 2, Value: "\n"}}, api.OK)
}

func TestCheckOfIdsThatAreNone(t *testing.T) {
	for _, id := range ends {
		checks(t, of(id), api.ErrArg)
		checks(t, of(0, 1, 2, id), api.ErrArg)
		checks(t, of(0, 1, 2, id, 255), api.ErrArg)
		checks(t, of(id, 0, 1, 2), api.ErrArg)
		checks(t, of(0, 1, id, 2), api.ErrArg)
	}
	// They rise, from below 0 on, or beyond 255.
	checks(t, of(-3, -2, -1), api.ErrArg)
	checks(t, of(0, 1, 2, 254, 255, 256), api.ErrArg)
	checks(t, of(256, 257, 258), api.ErrArg)
}

func TestCheckOfIdsThatDoNotRise(t *testing.T) {
	for _, l := range [][]int{
		{0, 0}, {0, 0, 1, 2}, {0, 1, 1, 2}, {0, 1, 2, 2}, {1, 0, 2}, {0, 2, 1}, {2, 1, 0}, {0, 1, 2, 1}, {0, 1, 2, 0},
		{0, 1, 2, 9, 9}, {0, 1, 2, 9, 8}, {0, 1, 2, 255, 255}, {0, 1, 2, 255, 254}, {0, 1, 2, 255, 3}, {0, 1, 2, 3, 5, 4, 6},
		{5, 5}, {7, 6}, {255, 0},
	} {
		checks(t, of(l...), api.ErrArg)
	}
	for i := range 256 {
		l := of(ids(every(0))...)
		l[i].Id = l[(i+255)%256].Id
		checks(t, l, api.ErrArg)
	}
}

func TestCheckOfValuesThatAreTooLong(t *testing.T) {
	for _, n := range []int{0, 1, 127, 128, 243, 244, 245, 246, 255, 256, 257, 500, 512, 1<<16 + 1, 1 << 20} {
		want := api.OK
		if n > 244 {
			want = api.ErrFull
		}
		for i := range 5 {
			l := of(0, 1, 2, 3, 255)
			l[i].Value = text(n)
			checks(t, l, want)
		}
	}
	// Bytes are counted, and not runes.
	checks(t, []api.Object{{Id: 0}, {Id: 1}, {Id: 2, Value: strings.Repeat("ä", 122)}}, api.OK)
	checks(t, []api.Object{{Id: 0}, {Id: 1}, {Id: 2, Value: strings.Repeat("ä", 123)}}, api.ErrFull)
}

func TestCheckOfIdsThatAreMissing(t *testing.T) {
	for _, l := range [][]int{
		{}, {0}, {1}, {2}, {0, 1}, {0, 2}, {1, 2}, {3}, {0, 1, 3}, {0, 2, 3}, {1, 2, 3}, {0, 3, 4}, {3, 4, 5}, {253, 254, 255},
		{0, 1, 255}, {1, 2, 3, 4, 5, 6}, {0, 2, 3, 4, 5, 6}, {0, 1, 3, 4, 5, 6}, {255},
	} {
		checks(t, of(l...), api.ErrNone)
	}
	checks(t, nil, api.ErrNone)
	checks(t, []api.Object{}, api.ErrNone)
	checks(t, every(0)[1:], api.ErrNone)
}

func TestCheckTellsTheFirstOfItsErrors(t *testing.T) {
	long := api.Object{Id: 9, Value: text(245)}
	for _, c := range []struct {
		l    []api.Object
		want api.Errno
	}{
		// The Id that may not be stands behind the Value that is too long, and ahead of it.
		{[]api.Object{long, {Id: 9}}, api.ErrArg},
		{[]api.Object{long, {Id: 256}}, api.ErrArg},
		{[]api.Object{{Id: -1}, long}, api.ErrArg},
		{[]api.Object{{Id: 256, Value: text(245)}}, api.ErrArg},
		{append(of(0, 1, 2), long, api.Object{Id: 8}), api.ErrArg},
		// An Id is missing, and another one may not be.
		{of(1, 2, 256), api.ErrArg},
		{of(2, 1), api.ErrArg},
		{of(3, 3), api.ErrArg},
		// An Id is missing, and a Value is too long.
		{[]api.Object{long}, api.ErrFull},
		{append(of(1, 2), long), api.ErrFull},
		{append([]api.Object{{Id: 0, Value: text(245)}}, of(2, 3)...), api.ErrFull},
	} {
		checks(t, c.l, c.want)
	}
}

// Promise 7.2.

func TestLevel(t *testing.T) {
	level := func(want int, l ...int) {
		t.Helper()
		if got := iden.Level(of(l...)); got != want {
			t.Errorf("Level of the Ids %v = %d; want %d", l, got, want)
		}
	}
	level(129, 0, 1, 2)
	for id := 3; id < 256; id++ {
		want := 130
		if id > 127 {
			want = 131
		}
		level(want, 0, 1, 2, id)
		level(131, append(ids(every(0)[:id]), 255)...)
	}
	for n := 3; n <= 256; n++ {
		want := map[bool]int{true: 131, false: 130}[n > 128]
		if n == 3 {
			want = 129
		}
		level(want, ids(every(0)[:n])...)
	}
	level(130, 0, 1, 2, 3, 126, 127)
	level(131, 0, 1, 2, 3, 127, 128)
}

// Promise 7.3.

func answers(t *testing.T, l []api.Object, code, object int, want api.Tell, exc int) {
	t.Helper()
	if got, e := iden.Answer(l, code, object); !same(got, want) || e != exc {
		t.Errorf("Answer of the Ids %v, %d, %d = %s, %d; want %s, %d", ids(l), code, object, short(got), e, short(want), exc)
	}
}

func TestAnswerOfTheExample(t *testing.T) {
	l := []api.Object{{Id: 0, Value: "a"}, {Id: 1, Value: "b"}, {Id: 2, Value: "c"}}
	want := api.Tell{Fn: 43, Code: 1, Level: 129, Objects: []api.Object{{Id: 1, Value: "b"}, {Id: 2, Value: "c"}}}
	answers(t, l, 1, 1, want, 0)
}

func TestAnswerOfCodesAndObjectsThatAreNone(t *testing.T) {
	for _, l := range [][]api.Object{of(0, 1, 2), of(0, 1, 2, 127, 128, 255), every(0)} {
		for _, n := range append([]int{0, 5, 6, 14, 128, 129, 255}, ends...) {
			for _, object := range append([]int{0, 1, 3, 255}, ends...) {
				answers(t, l, n, object, api.Tell{}, api.Value)
			}
		}
		for code := 1; code <= 4; code++ {
			for _, object := range ends {
				answers(t, l, code, object, api.Tell{}, api.Value)
			}
		}
	}
}

func TestAnswerWithOneObject(t *testing.T) {
	for _, l := range lists() {
		for object := range 256 {
			i := slices.IndexFunc(l, func(o api.Object) bool { return o.Id == object })
			if i < 0 {
				answers(t, l, 4, object, api.Tell{}, api.Address)
				continue
			}
			answers(t, l, 4, object, api.Tell{Fn: 43, Code: 4, Level: iden.Level(l), Objects: l[i : i+1]}, 0)
		}
	}
}

func TestAnswerWithSeveralObjects(t *testing.T) {
	l := of(0, 1, 2, 3, 5, 127, 128, 255)
	for _, c := range []struct{ code, object, from, to int }{
		{1, 0, 0, 3}, {1, 1, 1, 3}, {1, 2, 2, 3}, {1, 3, 0, 3}, {1, 4, 0, 3}, {1, 127, 0, 3}, {1, 128, 0, 3}, {1, 255, 0, 3},
		{2, 0, 0, 6}, {2, 2, 2, 6}, {2, 3, 3, 6}, {2, 4, 0, 6}, {2, 5, 4, 6}, {2, 6, 0, 6}, {2, 126, 0, 6}, {2, 127, 5, 6},
		{2, 128, 0, 6}, {2, 255, 0, 6},
		{3, 0, 0, 8}, {3, 1, 1, 8}, {3, 4, 0, 8}, {3, 127, 5, 8}, {3, 128, 6, 8}, {3, 129, 0, 8}, {3, 254, 0, 8}, {3, 255, 7, 8},
	} {
		answers(t, l, c.code, c.object, api.Tell{Fn: 43, Code: c.code, Level: 131, Objects: l[c.from:c.to]}, 0)
	}
	// The Level is that of the device, and not of what the request asks for.
	answers(t, of(0, 1, 2), 3, 0, api.Tell{Fn: 43, Code: 3, Level: 129, Objects: of(0, 1, 2)}, 0)
	answers(t, of(0, 1, 2, 9), 1, 9, api.Tell{Fn: 43, Code: 1, Level: 130, Objects: of(0, 1, 2)}, 0)
}

func TestAnswerUpToItsLastByte(t *testing.T) {
	for _, c := range []struct {
		sizes  []int
		object int
		from   int
		to     int
		more   bool
		next   int
	}{
		{[]int{80, 80, 80}, 0, 0, 3, false, 0},
		{[]int{80, 80, 81}, 0, 0, 2, true, 2},
		{[]int{81, 80, 80}, 0, 0, 2, true, 2},
		{[]int{81, 80, 80}, 1, 1, 3, false, 0},
		{[]int{80, 80, 78, 0}, 0, 0, 4, false, 0},
		{[]int{80, 80, 79, 0}, 0, 0, 3, true, 3},
		{[]int{80, 80, 80, 0}, 0, 0, 3, true, 3},
		{[]int{244, 244, 244}, 0, 0, 1, true, 1},
		{[]int{244, 244, 244}, 1, 1, 2, true, 2},
		{[]int{244, 244, 244}, 2, 2, 3, false, 0},
		{[]int{242, 0, 0}, 0, 0, 2, true, 2},
		{[]int{243, 0, 0}, 0, 0, 1, true, 1},
		// One that does not fit ends the reply, even if those behind it would.
		{[]int{10, 240, 0, 0}, 0, 0, 1, true, 1},
		{[]int{10, 240, 0, 0}, 1, 1, 4, false, 0},
		{[]int{10, 241, 0, 0}, 1, 1, 3, true, 3},
		{slices.Repeat([]int{0}, 123), 0, 0, 123, false, 0},
		{slices.Repeat([]int{0}, 124), 0, 0, 123, true, 123},
		{slices.Repeat([]int{0}, 124), 1, 1, 124, false, 0},
		{slices.Repeat([]int{0}, 256), 133, 133, 256, false, 0},
		{slices.Repeat([]int{0}, 256), 132, 132, 255, true, 255},
	} {
		l := sized(c.sizes...)
		want := api.Tell{Fn: 43, Code: 3, Level: iden.Level(l), More: c.more, Next: c.next, Objects: l[c.from:c.to]}
		answers(t, l, 3, c.object, want, 0)
	}
	// What a code leaves out is not left.
	answers(t, sized(80, 80, 80, 1), 1, 0, api.Tell{Fn: 43, Code: 1, Level: 130, Objects: sized(80, 80, 80)}, 0)
	answers(t, every(0), 2, 5, api.Tell{Fn: 43, Code: 2, Level: 131, Objects: every(0)[5:128]}, 0)
	answers(t, every(0), 2, 4, api.Tell{Fn: 43, Code: 2, Level: 131, More: true, Next: 127, Objects: every(0)[4:127]}, 0)
}

// model answers as the chapter says it, by what the bytes of the objects add up to.
func model(l []api.Object, code, object int) (api.Tell, int) {
	t := api.Tell{Fn: 43, Code: code, Level: 129}
	most := map[int]int{1: 2, 2: 127, 3: 255}[code]
	start := 0
	for _, o := range l {
		if o.Id > 2 {
			t.Level = max(t.Level, 130)
		}
		if o.Id > 127 {
			t.Level = 131
		}
		if o.Id == object && o.Id <= most {
			start = object
		}
	}
	sum := 7
	for _, o := range l {
		switch {
		case code == 4 && o.Id == object:
			t.Objects = append(t.Objects, o)
		case code == 4 || o.Id < start || o.Id > most || t.More:
		case sum+2+len(o.Value) <= 253:
			sum += 2 + len(o.Value)
			t.Objects = append(t.Objects, o)
		default:
			t.More, t.Next = true, o.Id
		}
	}
	if code == 4 && len(t.Objects) == 0 {
		return api.Tell{}, 2
	}
	return t, 0
}

func TestAnswerOfEveryRequest(t *testing.T) {
	for _, l := range lists() {
		for code := 1; code <= 4; code++ {
			for object := range 256 {
				want, exc := model(l, code, object)
				answers(t, l, code, object, want, exc)
			}
		}
	}
}

func TestAnswerIsAReply(t *testing.T) {
	for _, l := range lists() {
		for code := 1; code <= 4; code++ {
			for object := range 256 {
				x, exc := iden.Answer(l, code, object)
				if exc != 0 {
					continue
				}
				b, e := tell.Bytes(x)
				back, e2 := tell.Parse(b, 0)
				if len(b) > 253 || e != api.OK || e2 != api.OK || !same(back, x) {
					t.Errorf("%s: %d bytes, %d; they are %s, %d", short(x), len(b), e, short(back), e2)
				}
			}
		}
	}
}

func TestNothingIsChangedOrShared(t *testing.T) {
	for _, l := range lists() {
		// Room behind the list, which belongs to the caller.
		room := append(slices.Clone(l), api.Object{Id: 7, Value: "seven"}, api.Object{Id: 8, Value: "eight"})
		was := slices.Clone(room)
		mine := room[:len(l)]
		for code := 1; code <= 4; code++ {
			for _, object := range []int{0, 1, 2, 3, 127, 128, 255} {
				iden.Check(mine)
				iden.Level(mine)
				first, _ := iden.Answer(mine, code, object)
				second, _ := iden.Answer(mine, code, object)
				want := slices.Clone(second.Objects)
				spoil(first.Objects)
				if !slices.Equal(room, was) || !slices.Equal(second.Objects, want) {
					t.Fatalf("the Ids %v, %d, %d: a list changed with the result", ids(l), code, object)
				}
				spoil(mine)
				if !slices.Equal(second.Objects, want) {
					t.Fatalf("the Ids %v, %d, %d: the result changed with the list", ids(l), code, object)
				}
				copy(room, was)
			}
		}
	}
}

// spoil overwrites l and the spare capacity behind it.
func spoil(l []api.Object) {
	l = l[:cap(l)]
	for i := range l {
		l[i] = api.Object{Id: -1, Value: "spoilt"}
	}
}

func TestNoListMakesACallPanic(t *testing.T) {
	wrong := [][]api.Object{
		nil, {}, of(0), of(2, 1, 0), of(5, 5, 5), of(200, 3, 1), of(ends...), of(300, 301), of(-1), sized(245, 300, 1<<17),
		{{Id: 3, Value: text(300)}}, slices.Repeat(of(4), 3000), append(every(0), every(0)...), {{Id: 256}, {Id: 4}},
	}
	for _, l := range wrong {
		was := slices.Clone(l)
		iden.Check(l)
		iden.Level(l)
		for code := range 7 {
			for _, object := range append([]int{0, 1, 2, 3, 5, 127, 128, 200, 255}, ends...) {
				iden.Answer(l, code, object)
			}
		}
		if !slices.Equal(l, was) {
			t.Errorf("the Ids %v became %v", ids(was), ids(l))
		}
	}
}

// Promise 7.4.

// asked is the objects that a master is told who asks from an object on, as long as there is More.
func asked(t *testing.T, l []api.Object, code, object int) []api.Object {
	t.Helper()
	var told []api.Object
	for range 257 {
		x, exc := iden.Answer(l, code, object)
		if exc != 0 || len(x.Objects) == 0 {
			t.Fatalf("Answer of the Ids %v, %d, %d = %s, %d", ids(l), code, object, short(x), exc)
		}
		told = append(told, x.Objects...)
		if !x.More {
			return told
		}
		object = x.Next
	}
	t.Fatalf("the Ids %v, %d: there is always More", ids(l), code)
	return nil
}

func TestEachObjectIsToldOnce(t *testing.T) {
	for _, l := range lists() {
		for code, most := range map[int]int{1: 2, 2: 127, 3: 255} {
			var want []api.Object
			for _, o := range l {
				if o.Id <= most {
					want = append(want, o)
				}
			}
			if told := asked(t, l, code, 0); !slices.Equal(told, want) {
				t.Errorf("code %d: told %v; want %v", code, ids(told), ids(want))
			}
			// From another one on, those from there; from one that is not there, all.
			for object := range 256 {
				i := max(0, slices.Index(ids(want), object))
				if told := asked(t, l, code, object); !slices.Equal(told, want[i:]) {
					t.Errorf("code %d from %d on: told %v; want %v", code, object, ids(told), ids(want[i:]))
				}
			}
		}
	}
}
