package span_test

import (
	"cmp"
	"math"
	"math/rand"
	"slices"
	"testing"

	"busbar/api"
	"busbar/span"
)

func sp(table, from, to int) api.Span {
	return api.Span{Table: table, From: from, To: to}
}

// row is a list of spans, three numbers each.
func row(numbers ...int) []api.Span {
	var l []api.Span
	for ; len(numbers) > 0; numbers = numbers[3:] {
		l = append(l, sp(numbers[0], numbers[1], numbers[2]))
	}
	return l
}

// corner is a few neighbouring addresses of a table. A set of them is a number: bit i is the address first + i.
type corner struct{ table, first int }

const (
	wide = 8            // addresses of a corner
	sets = 1 << wide    // sets of them
	last = 65536 - wide // the first address of the last corner
)

// list writes the canonical list of a set down as the chapter says it, address by address.
func (c corner) list(set int) []api.Span {
	var l []api.Span
	for i := 0; i < wide; i++ {
		if set>>i&1 == 0 {
			continue
		}
		from := i
		for i < wide && set>>i&1 == 1 {
			i++
		}
		l = append(l, sp(c.table, c.first+from, c.first+i))
	}
	return l
}

// each calls do with every span of the corner, and with the set of its addresses.
func (c corner) each(do func(s api.Span, set int)) {
	for from := range wide {
		for to := from + 1; to <= wide; to++ {
			do(sp(c.table, c.first+from, c.first+to), 1<<to-1<<from)
		}
	}
}

// corners are those at both ends of the tables, and one amid them.
func corners() []corner {
	var l []corner
	for table := range 4 {
		l = append(l, corner{table, 0}, corner{table, 32764}, corner{table, last})
	}
	return l
}

// framed is l between spans of other corners and other tables.
func framed(l []api.Span) []api.Span {
	l = slices.Clone(l)
	for table := range 4 {
		l = append(l, sp(table, 20, 30), sp(table, 31, 32000), sp(table, 40000, 65000))
	}
	slices.SortFunc(l, func(a, b api.Span) int {
		return cmp.Or(cmp.Compare(a.Table, b.Table), cmp.Compare(a.From, b.From))
	})
	return l
}

// everyCase calls do with every set of every corner, alone and among other spans, and every span there.
func everyCase(do func(set int, s api.Span, other int, list func(set int) []api.Span)) {
	for _, c := range corners() {
		for set := range sets {
			c.each(func(s api.Span, other int) {
				do(set, s, other, c.list)
				do(set, s, other, func(set int) []api.Span { return framed(c.list(set)) })
			})
		}
	}
}

// spoil overwrites l and the spare capacity behind it.
func spoil(l []api.Span) {
	l = l[:cap(l)]
	for i := range l {
		l[i] = sp(-7, -7, -7)
	}
}

// roomy is l with room behind it, which belongs to the caller, and all of both as it is.
func roomy(l []api.Span) (mine, whole, was []api.Span) {
	whole = append(slices.Clone(l), make([]api.Span, 5)...)
	for i := len(l); i < len(whole); i++ {
		whole[i] = sp(-5, i, -5)
	}
	return whole[:len(l)], whole, slices.Clone(whole)
}

// Promise 12.1.

func TestRight(t *testing.T) {
	for _, table := range []int{0, 1, 2, 3} {
		for _, c := range []struct{ from, to int }{
			{0, 1}, {0, 2}, {0, 65535}, {0, 65536}, {1, 2}, {7, 9}, {65534, 65535}, {65534, 65536}, {65535, 65536},
		} {
			if !span.Right(sp(table, c.from, c.to)) {
				t.Errorf("%d, %d to %d is not right", table, c.from, c.to)
			}
		}
		for _, c := range []struct{ from, to int }{
			{0, 0}, {1, 0}, {1, 1}, {9, 7}, {65535, 65535}, {65536, 65536}, {65536, 65535}, {65536, 0},
			{-1, 0}, {-1, 1}, {-1, 65536}, {-1, -1}, {-2, -1}, {-65536, 1}, {math.MinInt, 1}, {math.MinInt, math.MaxInt},
			{0, 65537}, {65535, 65537}, {65536, 65537}, {0, 1 << 31}, {0, 1 << 32}, {0, 1<<32 + 1}, {0, math.MaxInt},
			{0, -1}, {0, math.MinInt}, {1 << 32, 1<<32 + 1}, {5, 5}, {math.MaxInt, math.MinInt}, {math.MaxInt, math.MaxInt},
		} {
			if span.Right(sp(table, c.from, c.to)) {
				t.Errorf("%d, %d to %d is right", table, c.from, c.to)
			}
		}
	}
}

func TestRightOfTables(t *testing.T) {
	for _, table := range []int{math.MinInt, -1 << 32, -65536, -256, -2, -1, 4, 5, 255, 256, 257, 65536, 1 << 32, 1<<32 + 1, math.MaxInt} {
		for _, s := range row(table, 0, 1, table, 0, 65536, table, 65535, 65536) {
			if span.Right(s) || span.Canon([]api.Span{s}) {
				t.Errorf("%v is right", s)
			}
		}
	}
}

func TestRightByTheChapter(t *testing.T) {
	ends := []int{-2, -1, 0, 1, 2, 32767, 32768, 65534, 65535, 65536, 65537}
	for table := -2; table < 7; table++ {
		for _, from := range ends {
			for _, to := range ends {
				want := table >= 0 && table <= 3 && from >= 0 && to <= 65536 && from < to
				if span.Right(sp(table, from, to)) != want {
					t.Errorf("Right(%d, %d, %d) = %t", table, from, to, !want)
				}
			}
		}
	}
}

func TestCanon(t *testing.T) {
	for _, l := range [][]api.Span{
		nil, {},
		row(0, 0, 1), row(3, 0, 65536),
		row(2, 3, 5, 2, 6, 7), row(2, 3, 5, 2, 65535, 65536), row(2, 0, 1, 2, 2, 3, 2, 4, 65536),
		row(0, 0, 65536, 1, 0, 65536, 2, 0, 65536, 3, 0, 65536),
		row(1, 9, 10, 2, 0, 1), row(1, 9, 10, 2, 9, 10), row(1, 3, 5, 2, 4, 9), row(0, 65535, 65536, 3, 0, 1),
	} {
		if !span.Canon(l) {
			t.Errorf("%v is not canonical", l)
		}
	}
	for _, l := range [][]api.Span{
		{{}}, row(2, 3, 3), row(2, 5, 3), row(4, 0, 1), row(-1, 0, 1), row(2, -1, 1), row(2, 0, 65537),
		row(2, 3, 5, 2, 5, 7), row(2, 3, 5, 2, 4, 7), row(2, 3, 5, 2, 3, 5), row(2, 3, 9, 2, 4, 5),
		row(2, 6, 7, 2, 3, 5), row(2, 0, 1, 1, 3, 5), row(3, 0, 1, 0, 3, 5), row(2, 5, 7, 2, 3, 5),
		row(0, 0, 1, 0, 2, 3, 0, 3, 4), row(0, 0, 1, 1, 0, 1, 0, 2, 3), row(0, 0, 1, 0, 1, 2, 0, 3, 4),
		row(1, 2, 3, 1, 4, 5, 1, 6, 6), row(1, 2, 2, 1, 4, 5, 1, 6, 7), row(1, 2, 3, 1, 4, 4, 1, 6, 7),
		row(1, 2, 3, 1, 4, 5, 4, 6, 7), row(-1, 2, 3, 1, 4, 5), row(1, 2, 3, 1, 4, 65537),
		row(2, 7, 3, 2, 6, 9), row(2, 3, math.MinInt, 2, 6, 9),
	} {
		if span.Canon(l) {
			t.Errorf("%v is canonical", l)
		}
	}
}

// Of all short lists of spans of few addresses, the canonical ones are those that are the list of a set.
func TestCanonOfEveryShortList(t *testing.T) {
	var spans []api.Span
	for table := range 2 {
		for from := range 5 {
			for to := range 5 {
				spans = append(spans, sp(table, from, to))
			}
		}
	}
	are := map[[3]api.Span]bool{}
	for a := range 16 {
		for b := range 16 {
			l := slices.Concat(corner{0, 0}.list(a), corner{1, 0}.list(b))
			if len(l) == 3 {
				are[[3]api.Span(l)] = true
			}
		}
	}
	many := 0
	for _, a := range spans {
		for _, b := range spans {
			for _, c := range spans {
				l := [3]api.Span{a, b, c}
				if span.Canon(l[:]) != are[l] {
					t.Fatalf("Canon(%v) = %t", l, !are[l])
				}
				if are[l] {
					many++
				}
			}
		}
	}
	if many == 0 || many != len(are) {
		t.Errorf("%d lists are canonical, want %d", many, len(are))
	}
}

// Promise 12.2.

func TestExamples(t *testing.T) {
	if l := span.Add(row(2, 3, 5), sp(2, 5, 7)); !slices.Equal(l, row(2, 3, 7)) {
		t.Error(l)
	}
	if l := span.Cut(row(2, 3, 7), sp(2, 4, 5)); !slices.Equal(l, row(2, 3, 4, 2, 5, 7)) {
		t.Error(l)
	}
}

func TestAddAndCut(t *testing.T) {
	l := row(0, 5, 6, 2, 3, 5, 2, 8, 10, 2, 20, 30, 3, 0, 1)
	for _, c := range []struct {
		s        api.Span
		add, cut []api.Span
	}{
		{sp(2, 5, 7), row(0, 5, 6, 2, 3, 7, 2, 8, 10, 2, 20, 30, 3, 0, 1), l},
		{sp(2, 6, 7), row(0, 5, 6, 2, 3, 5, 2, 6, 7, 2, 8, 10, 2, 20, 30, 3, 0, 1), l},
		{sp(2, 5, 8), row(0, 5, 6, 2, 3, 10, 2, 20, 30, 3, 0, 1), l},
		{sp(2, 4, 9), row(0, 5, 6, 2, 3, 10, 2, 20, 30, 3, 0, 1), row(0, 5, 6, 2, 3, 4, 2, 9, 10, 2, 20, 30, 3, 0, 1)},
		{sp(2, 0, 65536), row(0, 5, 6, 2, 0, 65536, 3, 0, 1), row(0, 5, 6, 3, 0, 1)},
		{sp(2, 22, 23), l, row(0, 5, 6, 2, 3, 5, 2, 8, 10, 2, 20, 22, 2, 23, 30, 3, 0, 1)},
		{sp(2, 20, 30), l, row(0, 5, 6, 2, 3, 5, 2, 8, 10, 3, 0, 1)},
		{sp(2, 20, 21), l, row(0, 5, 6, 2, 3, 5, 2, 8, 10, 2, 21, 30, 3, 0, 1)},
		{sp(2, 29, 30), l, row(0, 5, 6, 2, 3, 5, 2, 8, 10, 2, 20, 29, 3, 0, 1)},
		{sp(2, 4, 21), row(0, 5, 6, 2, 3, 30, 3, 0, 1), row(0, 5, 6, 2, 3, 4, 2, 21, 30, 3, 0, 1)},
		{sp(2, 10, 20), row(0, 5, 6, 2, 3, 5, 2, 8, 30, 3, 0, 1), l},
		{sp(2, 0, 2), row(0, 5, 6, 2, 0, 2, 2, 3, 5, 2, 8, 10, 2, 20, 30, 3, 0, 1), l},
		{sp(2, 40, 41), row(0, 5, 6, 2, 3, 5, 2, 8, 10, 2, 20, 30, 2, 40, 41, 3, 0, 1), l},
		{sp(1, 3, 5), row(0, 5, 6, 1, 3, 5, 2, 3, 5, 2, 8, 10, 2, 20, 30, 3, 0, 1), l},
		{sp(3, 1, 2), row(0, 5, 6, 2, 3, 5, 2, 8, 10, 2, 20, 30, 3, 0, 2), l},
		{sp(3, 0, 1), l, row(0, 5, 6, 2, 3, 5, 2, 8, 10, 2, 20, 30)},
		{sp(0, 0, 5), row(0, 0, 6, 2, 3, 5, 2, 8, 10, 2, 20, 30, 3, 0, 1), l},
		{sp(0, 5, 6), l, row(2, 3, 5, 2, 8, 10, 2, 20, 30, 3, 0, 1)},
	} {
		if got := span.Add(l, c.s); !slices.Equal(got, c.add) {
			t.Errorf("Add(%v) = %v, want %v", c.s, got, c.add)
		}
		if got := span.Cut(l, c.s); !slices.Equal(got, c.cut) {
			t.Errorf("Cut(%v) = %v, want %v", c.s, got, c.cut)
		}
	}
}

func TestAddAndCutOfNothing(t *testing.T) {
	for _, l := range [][]api.Span{nil, {}} {
		for _, s := range row(0, 0, 1, 1, 2, 3, 2, 0, 65536, 3, 65535, 65536) {
			if got := span.Add(l, s); !slices.Equal(got, []api.Span{s}) {
				t.Errorf("Add(%v) = %v", s, got)
			}
			if got := span.Cut(l, s); len(got) != 0 {
				t.Errorf("Cut(%v) = %v", s, got)
			}
			if got := span.Cut([]api.Span{s}, s); len(got) != 0 {
				t.Errorf("Cut(%v, %v) = %v", s, s, got)
			}
		}
	}
}

func TestAddOfEverySet(t *testing.T) {
	everyCase(func(set int, s api.Span, other int, list func(int) []api.Span) {
		if got, want := span.Add(list(set), s), list(set|other); !slices.Equal(got, want) {
			t.Fatalf("Add(%v, %v) = %v, want %v", list(set), s, got, want)
		}
	})
}

func TestCutOfEverySet(t *testing.T) {
	everyCase(func(set int, s api.Span, other int, list func(int) []api.Span) {
		if got, want := span.Cut(list(set), s), list(set&^other); !slices.Equal(got, want) {
			t.Fatalf("Cut(%v, %v) = %v, want %v", list(set), s, got, want)
		}
	})
}

// Addresses of one table are not those of another one, even where the last of one precedes the first of the next.
func TestTablesAreApart(t *testing.T) {
	for a := range 4 {
		for b := range 4 {
			if a == b {
				continue
			}
			l := row(a, 0, 3, a, 5, 65536)
			want := slices.Concat(l, row(b, 0, 65536))
			if b < a {
				want = slices.Concat(row(b, 0, 65536), l)
			}
			if got := span.Add(l, sp(b, 0, 65536)); !slices.Equal(got, want) {
				t.Errorf("Add(%v, table %d) = %v", l, b, got)
			}
			if got := span.Cut(l, sp(b, 0, 65536)); !slices.Equal(got, l) {
				t.Errorf("Cut(%v, table %d) = %v", l, b, got)
			}
			if span.Meets(l, sp(b, 0, 65536)) || span.Covers(l, sp(b, 0, 1)) || span.Has(l, api.Key{Table: b}) {
				t.Errorf("%v has addresses of table %d", l, b)
			}
		}
	}
}

// Promise 12.3.

func TestHas(t *testing.T) {
	l := row(0, 5, 6, 2, 0, 2, 2, 3, 5, 2, 65535, 65536)
	for _, c := range []struct {
		table, addr int
		want        bool
	}{
		{0, 4, false}, {0, 5, true}, {0, 6, false}, {1, 5, false}, {3, 5, false},
		{2, 0, true}, {2, 1, true}, {2, 2, false}, {2, 3, true}, {2, 4, true}, {2, 5, false},
		{2, 65534, false}, {2, 65535, true},
	} {
		if got := span.Has(l, api.Key{Table: c.table, Addr: c.addr}); got != c.want {
			t.Errorf("Has(%d, %d) = %t", c.table, c.addr, got)
		}
	}
}

func TestHasOfEverySet(t *testing.T) {
	for _, c := range corners() {
		for set := range sets {
			for _, l := range [][]api.Span{c.list(set), framed(c.list(set))} {
				for i := range wide {
					want := set>>i&1 == 1
					if got := span.Has(l, api.Key{Table: c.table, Addr: c.first + i}); got != want {
						t.Fatalf("Has(%v, %d, %d) = %t", l, c.table, c.first+i, got)
					}
				}
			}
		}
	}
}

// A key that there is not is in no list.
func TestHasNoSuchKey(t *testing.T) {
	lists := [][]api.Span{nil, row(0, 0, 65536, 1, 0, 65536, 2, 0, 65536, 3, 0, 65536), row(2, 0, 1, 2, 65535, 65536)}
	for _, l := range lists {
		for table := -1; table < 5; table++ {
			for _, addr := range []int{math.MinInt, math.MinInt + 1, -1 << 32, -65536, -2, -1,
				65536, 65537, 1 << 31, 1 << 32, 1<<32 + 1, math.MaxInt - 1, math.MaxInt} {
				if span.Has(l, api.Key{Table: table, Addr: addr}) {
					t.Errorf("Has(%v, %d, %d)", l, table, addr)
				}
			}
		}
		for _, table := range []int{math.MinInt, -1 << 32, -2, -1, 4, 5, 1 << 32, 1<<32 + 2, math.MaxInt} {
			for _, addr := range []int{0, 1, 65535} {
				if span.Has(l, api.Key{Table: table, Addr: addr}) {
					t.Errorf("Has(%v, %d, %d)", l, table, addr)
				}
			}
		}
	}
}

func TestCoversAndMeets(t *testing.T) {
	l := row(0, 5, 6, 2, 3, 5, 2, 8, 10)
	for _, c := range []struct {
		s             api.Span
		covers, meets bool
	}{
		{sp(2, 3, 5), true, true}, {sp(2, 3, 4), true, true}, {sp(2, 4, 5), true, true}, {sp(2, 8, 9), true, true},
		{sp(2, 4, 6), false, true}, {sp(2, 2, 4), false, true}, {sp(2, 3, 10), false, true}, {sp(2, 0, 65536), false, true},
		{sp(2, 4, 9), false, true}, {sp(2, 5, 9), false, true}, {sp(2, 2, 11), false, true},
		{sp(2, 5, 8), false, false}, {sp(2, 5, 6), false, false}, {sp(2, 6, 7), false, false}, {sp(2, 0, 3), false, false},
		{sp(2, 10, 11), false, false}, {sp(2, 10, 65536), false, false}, {sp(1, 3, 5), false, false}, {sp(3, 0, 65536), false, false},
		{sp(0, 5, 6), true, true}, {sp(0, 5, 7), false, true}, {sp(0, 4, 6), false, true}, {sp(0, 0, 5), false, false},
	} {
		if got := span.Covers(l, c.s); got != c.covers {
			t.Errorf("Covers(%v) = %t", c.s, got)
		}
		if got := span.Meets(l, c.s); got != c.meets {
			t.Errorf("Meets(%v) = %t", c.s, got)
		}
		if span.Covers(nil, c.s) || span.Meets(nil, c.s) {
			t.Errorf("an empty list has addresses of %v", c.s)
		}
	}
}

func TestCoversAndMeetsOfEverySet(t *testing.T) {
	everyCase(func(set int, s api.Span, other int, list func(int) []api.Span) {
		if got := span.Covers(list(set), s); got != (other&^set == 0) {
			t.Fatalf("Covers(%v, %v) = %t", list(set), s, got)
		}
		if got := span.Meets(list(set), s); got != (other&set != 0) {
			t.Fatalf("Meets(%v, %v) = %t", list(set), s, got)
		}
	})
}

func TestSize(t *testing.T) {
	for _, c := range []struct {
		l    []api.Span
		want int
	}{
		{nil, 0}, {[]api.Span{}, 0}, {row(0, 0, 1), 1}, {row(3, 65535, 65536), 1}, {row(2, 0, 65536), 65536},
		{row(0, 5, 6, 2, 3, 5, 2, 8, 10), 5}, {row(1, 100, 200, 1, 201, 300), 199},
		{row(0, 0, 65536, 1, 0, 65536, 2, 0, 65536, 3, 0, 65536), 262144},
	} {
		if got := span.Size(c.l); got != c.want {
			t.Errorf("Size(%v) = %d, want %d", c.l, got, c.want)
		}
	}
	for _, c := range corners() {
		rest := span.Size(framed(nil))
		for set := range sets {
			n := 0
			for i := range wide {
				n += set >> i & 1
			}
			if got := span.Size(c.list(set)); got != n {
				t.Fatalf("Size(%v) = %d, want %d", c.list(set), got, n)
			}
			if got := span.Size(framed(c.list(set))); got != rest+n {
				t.Fatalf("Size(%v) = %d, want %d", framed(c.list(set)), got, rest+n)
			}
		}
	}
}

// Promise 12.4.

// Whatever the order in which addresses come and go, a set of them has one list, and it is canonical.
func TestOneListForOneSet(t *testing.T) {
	r := rand.New(rand.NewSource(12))
	var reached [sets]bool
	for range 5000 {
		c := corners()[r.Intn(12)]
		l, set := []api.Span(nil), 0
		for range 20 {
			from := r.Intn(wide)
			to := from + 1 + r.Intn(min(3, wide-from))
			s, other := sp(c.table, c.first+from, c.first+to), 1<<to-1<<from
			if r.Intn(2) == 0 {
				l, set = span.Add(l, s), set|other
			} else {
				l, set = span.Cut(l, s), set&^other
			}
			if !span.Canon(l) || !slices.Equal(l, c.list(set)) {
				t.Fatalf("the set %b has the list %v", set, l)
			}
			reached[set] = true
		}
	}
	if slices.Contains(reached[:], false) {
		t.Error("a set was never reached")
	}
}

// No two sets have the same list, and Add alone makes each of them from nothing, address by address.
func TestEverySetHasItsList(t *testing.T) {
	for _, c := range corners() {
		for set := range sets {
			up, down := []api.Span(nil), []api.Span(nil)
			for i := range wide {
				if set>>i&1 == 1 {
					up = span.Add(up, sp(c.table, c.first+i, c.first+i+1))
				}
				if set>>(wide-1-i)&1 == 1 {
					down = span.Add(down, sp(c.table, c.first+wide-1-i, c.first+wide-i))
				}
			}
			if !span.Canon(up) || !slices.Equal(up, c.list(set)) || !slices.Equal(up, down) {
				t.Fatalf("the set %b has the lists %v and %v", set, up, down)
			}
		}
	}
}

// The longest lists there are: every second address of all tables.
func TestLongLists(t *testing.T) {
	var l []api.Span
	for table := range 4 {
		for at := 0; at < 65536; at += 2 {
			l = append(l, sp(table, at, at+1))
		}
	}
	if !span.Canon(l) || span.Size(l) != 131072 {
		t.Fatal(span.Canon(l), span.Size(l))
	}
	for table := range 4 {
		for at := range 65536 {
			if span.Has(l, api.Key{Table: table, Addr: at}) != (at%2 == 0) {
				t.Fatal(table, at)
			}
		}
		for at := 1; at < 65535; at += 4096 {
			gap := sp(table, at, at+1)
			joined, first := span.Add(l, gap), table*32768+at/2
			if len(joined) != len(l)-1 || joined[first] != sp(table, at-1, at+2) || !span.Canon(joined) {
				t.Fatal(len(joined), joined[first])
			}
			if back := span.Cut(joined, gap); !slices.Equal(back, l) {
				t.Fatal(len(back))
			}
		}
		if whole := span.Add(l, sp(table, 0, 65536)); len(whole) != len(l)-32767 || span.Size(whole) != 131072+32768 {
			t.Fatal(len(whole), span.Size(whole))
		}
		if none := span.Cut(l, sp(table, 0, 65536)); len(none) != len(l)-32768 || span.Size(none) != 131072-32768 {
			t.Fatal(len(none), span.Size(none))
		}
	}
}

// What goes in and comes out is nobody else's.

func TestArgumentsStayAsTheyAre(t *testing.T) {
	everyCase(func(set int, s api.Span, other int, list func(int) []api.Span) {
		l, whole, was := roomy(list(set))
		added, cut := span.Add(l, s), span.Cut(l, s)
		span.Canon(l)
		span.Has(l, api.Key{Table: s.Table, Addr: s.From})
		span.Covers(l, s)
		span.Meets(l, s)
		span.Size(l)
		spoil(added)
		spoil(cut)
		if !slices.Equal(whole, was) {
			t.Fatalf("%v became %v", was, whole)
		}
	})
}

func TestResultsAreNewMemory(t *testing.T) {
	everyCase(func(set int, s api.Span, other int, list func(int) []api.Span) {
		l, whole, _ := roomy(list(set))
		added, cut := span.Add(l, s), span.Cut(l, s)
		wasAdded, wasCut := slices.Clone(added), slices.Clone(cut)
		spoil(span.Add(l, s))
		spoil(span.Cut(l, s))
		spoil(whole)
		if !slices.Equal(added, wasAdded) || !slices.Equal(cut, wasCut) {
			t.Fatalf("%v and %v became %v and %v", wasAdded, wasCut, added, cut)
		}
	})
}

// For lists that are not canonical and spans that are not right nothing is promised but that each call ends.
func TestEveryCallEnds(t *testing.T) {
	numbers := []int{math.MinInt, -1, 0, 3, 65536, math.MaxInt}
	var spans []api.Span
	for _, table := range []int{math.MinInt, 0, 2, math.MaxInt} {
		for _, from := range numbers {
			for _, to := range numbers {
				spans = append(spans, sp(table, from, to))
			}
		}
	}
	r := rand.New(rand.NewSource(4))
	for range 20000 {
		l := make([]api.Span, r.Intn(9))
		for i := range l {
			l[i] = spans[r.Intn(len(spans))]
		}
		s := spans[r.Intn(len(spans))]
		span.Right(s)
		span.Canon(l)
		span.Add(l, s)
		span.Cut(l, s)
		span.Has(l, api.Key{Table: s.Table, Addr: s.From})
		span.Covers(l, s)
		span.Meets(l, s)
		span.Size(l)
	}
}
