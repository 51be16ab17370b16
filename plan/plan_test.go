package plan_test

import (
	"math"
	"math/rand"
	"slices"
	"testing"

	"busbar/api"
	"busbar/plan"
)

func sp(table, from, to int) api.Span {
	return api.Span{Table: table, From: from, To: to}
}

// row is a list of spans, three numbers each.
func row(numbers ...int) []api.Span {
	var l []api.Span
	for ; len(numbers) > 0; numbers = numbers[3:] {
		l = append(l, sp(numbers[0], numbers[1], numbers[2]))
	}
	return l
}

// full is every address of every table but those of the control window.
func full(window int) []api.Span {
	l := row(0, 0, 65536, 1, 0, 65536)
	if window > 0 {
		l = append(l, sp(2, 0, window))
	}
	if window < 65528 {
		l = append(l, sp(2, window+8, 65536))
	}
	return append(l, sp(3, 0, 65536))
}

// windows are those at both ends of the table, beside them, and amid it.
func windows() []int {
	return []int{0, 1, 2, 7, 8, 9, 15, 16, 100, 255, 256, 32760, 32764, 32768, 65512, 65519, 65520, 65521, 65526, 65527, 65528}
}

// wrong are numbers at which no control window begins.
func wrong() []int {
	return []int{math.MinInt, math.MinInt + 1, -1 << 32, -65536, -65528, -9, -8, -7, -1,
		65529, 65530, 65535, 65536, 65537, 131064, 1 << 31, 1 << 32, 1<<32 + 100, math.MaxInt - 8, math.MaxInt - 7, math.MaxInt}
}

// has tells whether an address of a table is in a list.
func has(l []api.Span, table, addr int) bool {
	for _, s := range l {
		if s.Table == table && s.From <= addr && addr < s.To {
			return true
		}
	}
	return false
}

// where is what the chapter says of a right span, address by address.
func where(m []api.Span, window int, s api.Span) int {
	control, data := true, true
	for addr := s.From; addr < s.To; addr++ {
		control = control && s.Table == 2 && addr >= window && addr <= window+7
		data = data && has(m, s.Table, addr)
	}
	switch {
	case control:
		return 2
	case data:
		return 1
	}
	return 0
}

// check is what the chapter says of a canonical list and a window that can be, address by address.
func check(m []api.Span, window int) api.Errno {
	for addr := window; addr <= window+7; addr++ {
		if has(m, 2, addr) {
			return api.ErrIs
		}
	}
	return api.OK
}

func TestConstants(t *testing.T) {
	if plan.Outside != 0 || plan.Data != 1 || plan.Control != 2 {
		t.Error(plan.Outside, plan.Data, plan.Control)
	}
}

// Promise 13.1.

func TestCheckOfWindows(t *testing.T) {
	for window := range 65529 {
		if e := plan.Check(nil, window); e != api.OK {
			t.Fatalf("the window at %d: %d", window, e)
		}
	}
	for _, window := range windows() {
		for _, m := range [][]api.Span{nil, {}, full(window), row(0, window, window+8), row(1, 0, 65536, 3, window, window+1)} {
			if e := plan.Check(m, window); e != api.OK {
				t.Errorf("Check(%v, %d) = %d", m, window, e)
			}
		}
	}
}

// The window is looked at ahead of the map, whatever the map is.
func TestCheckOfWrongWindows(t *testing.T) {
	for _, window := range wrong() {
		for _, m := range [][]api.Span{
			nil, row(0, 0, 10), row(2, 0, 65536), row(2, 65529, 65536), row(2, window, window+8),
			row(4, 0, 1), row(2, 5, 5), row(2, 0, 5, 2, 5, 6), row(3, 0, 1, 2, 0, 1),
		} {
			if e := plan.Check(m, window); e != api.ErrArg {
				t.Errorf("Check(%v, %d) = %d", m, window, e)
			}
		}
	}
}

// A map that is not canonical is one, whether its spans meet the window or not.
func TestCheckOfWrongMaps(t *testing.T) {
	for _, m := range [][]api.Span{
		row(-1, 0, 1), row(4, 0, 1), row(math.MinInt, 0, 1), row(1<<32+2, 0, 1), row(math.MaxInt, 0, 1),
		row(2, 0, 0), row(2, 5, 4), row(2, -1, 5), row(2, 0, 65537), row(2, 103, 103), row(2, 104, 101),
		row(2, math.MinInt, math.MaxInt), row(2, 0, math.MaxInt), row(2, 0, 1<<32+1), row(0, 0, 0), row(3, 65536, 65537),
		row(2, 0, 5, 2, 5, 6), row(2, 0, 5, 2, 4, 6), row(2, 0, 5, 2, 0, 5), row(2, 7, 9, 2, 0, 5),
		row(2, 100, 108, 2, 108, 110), row(2, 0, 104, 2, 104, 200), row(2, 100, 108, 2, 90, 95), row(2, 100, 108, 0, 1, 2),
		row(3, 0, 65536, 2, 0, 1), row(1, 0, 1, 0, 0, 1), row(0, 0, 1, 2, 100, 108, 3, 9, 9), row(2, 103, 104, 4, 0, 1),
		row(0, 0, 1, 0, 1, 2), row(3, 0, 1, 3, 2, 3, 3, 3, 4),
	} {
		for _, window := range []int{0, 96, 100, 107, 65528} {
			if e := plan.Check(m, window); e != api.ErrForm {
				t.Errorf("Check(%v, %d) = %d", m, window, e)
			}
		}
	}
}

func TestCheckOfMapsThatMeetTheWindow(t *testing.T) {
	for _, c := range []struct {
		m      []api.Span
		window int
		want   api.Errno
	}{
		{row(2, 0, 100), 100, api.OK}, {row(2, 0, 101), 100, api.ErrIs},
		{row(2, 108, 200), 100, api.OK}, {row(2, 107, 200), 100, api.ErrIs},
		{row(2, 100, 108), 100, api.ErrIs}, {row(2, 103, 104), 100, api.ErrIs}, {row(2, 0, 65536), 100, api.ErrIs},
		{row(2, 0, 100, 2, 108, 200), 100, api.OK}, {row(2, 0, 100, 2, 101, 200), 100, api.ErrIs},
		{row(2, 0, 100, 2, 104, 105, 2, 108, 200), 100, api.ErrIs},
		{row(0, 100, 108, 1, 100, 108, 3, 100, 108), 100, api.OK},
		{row(0, 100, 108, 1, 100, 108, 2, 107, 108, 3, 100, 108), 100, api.ErrIs},
		{row(2, 8, 65536), 0, api.OK}, {row(2, 7, 65536), 0, api.ErrIs}, {row(2, 0, 1), 0, api.ErrIs},
		{row(2, 0, 65528), 65528, api.OK}, {row(2, 0, 65529), 65528, api.ErrIs}, {row(2, 65535, 65536), 65528, api.ErrIs},
		{row(2, 0, 65527, 2, 65535, 65536), 65527, api.OK}, {row(2, 0, 65527, 2, 65534, 65536), 65527, api.ErrIs},
	} {
		if e := plan.Check(c.m, c.window); e != c.want {
			t.Errorf("Check(%v, %d) = %d, want %d", c.m, c.window, e, c.want)
		}
	}
}

// Every span that begins and ends in the window or a few addresses beside it, in each table.
func TestCheckByTheChapter(t *testing.T) {
	for _, window := range windows() {
		for table := range 4 {
			for from := max(0, window-3); from < min(65536, window+11); from++ {
				for to := from + 1; to <= min(65536, window+12); to++ {
					m := row(table, from, to)
					if e := plan.Check(m, window); e != check(m, window) {
						t.Fatalf("Check(%v, %d) = %d", m, window, e)
					}
				}
			}
		}
	}
}

// One address alone meets the window, or not.
func TestCheckOfEveryAddress(t *testing.T) {
	for _, window := range windows() {
		for addr := range 65536 {
			want := api.OK
			if addr >= window && addr <= window+7 {
				want = api.ErrIs
			}
			if e := plan.Check(row(2, addr, addr+1), window); e != want {
				t.Fatalf("the address %d, with the window at %d: %d", addr, window, e)
			}
		}
	}
}

// Promise 13.2.

func TestWhere(t *testing.T) {
	m := row(0, 0, 10, 2, 0, 10, 2, 90, 100, 2, 108, 110, 3, 100, 108)
	for _, c := range []struct {
		s    api.Span
		want int
	}{
		{sp(2, 0, 10), plan.Data}, {sp(2, 0, 1), plan.Data}, {sp(2, 9, 10), plan.Data}, {sp(2, 98, 100), plan.Data},
		{sp(2, 108, 109), plan.Data}, {sp(2, 108, 110), plan.Data}, {sp(0, 3, 7), plan.Data}, {sp(3, 100, 108), plan.Data},
		{sp(2, 100, 108), plan.Control}, {sp(2, 100, 101), plan.Control}, {sp(2, 107, 108), plan.Control}, {sp(2, 103, 105), plan.Control},
		{sp(2, 9, 11), plan.Outside}, {sp(2, 10, 11), plan.Outside}, {sp(2, 10, 90), plan.Outside}, {sp(2, 5, 95), plan.Outside},
		{sp(2, 99, 100), plan.Data}, {sp(2, 99, 101), plan.Outside}, {sp(2, 99, 108), plan.Outside}, {sp(2, 107, 109), plan.Outside},
		{sp(2, 100, 109), plan.Outside}, {sp(2, 90, 110), plan.Outside}, {sp(2, 110, 111), plan.Outside}, {sp(2, 109, 111), plan.Outside},
		{sp(2, 0, 65536), plan.Outside}, {sp(0, 100, 108), plan.Outside}, {sp(1, 100, 108), plan.Outside}, {sp(1, 0, 10), plan.Outside},
		{sp(3, 0, 10), plan.Outside}, {sp(3, 99, 108), plan.Outside}, {sp(0, 0, 11), plan.Outside}, {sp(2, 65535, 65536), plan.Outside},
	} {
		if got := plan.Where(m, 100, c.s); got != c.want {
			t.Errorf("Where(%v) = %d, want %d", c.s, got, c.want)
		}
	}
}

func TestWhereOfTheExamples(t *testing.T) {
	m := row(2, 0, 10)
	if got := plan.Where(m, 100, sp(2, 9, 11)); got != plan.Outside {
		t.Error(got)
	}
	if got := plan.Where(m, 100, sp(2, 100, 108)); got != plan.Control {
		t.Error(got)
	}
}

// A span that is not right is outside, even where all around it there is something.
func TestWhereOfWrongSpans(t *testing.T) {
	numbers := []int{math.MinInt, math.MinInt + 1, -1 << 32, -65536, -1, 0, 1, 99, 100, 101, 107, 108, 109, 65535, 65536, 65537,
		1 << 31, 1 << 32, 1<<32 + 100, 1<<32 + 108, math.MaxInt - 1, math.MaxInt}
	for _, window := range []int{0, 93, 100, 65528} {
		for _, m := range [][]api.Span{nil, full(window)} {
			for _, table := range []int{math.MinInt, -1 << 32, -1, 0, 1, 2, 3, 4, 5, 255, 256, 258, 1 << 32, 1<<32 + 2, math.MaxInt} {
				for _, from := range numbers {
					for _, to := range numbers {
						right := table >= 0 && table <= 3 && from >= 0 && to <= 65536 && from < to
						if got := plan.Where(m, window, sp(table, from, to)); !right && got != plan.Outside {
							t.Errorf("Where(%v, %d, %d to %d of %d) = %d", m, window, from, to, table, got)
						}
					}
				}
			}
		}
	}
}

// Every right span that begins and ends in the window or a few addresses beside it, in each table, with maps
// that leave nothing out, leave all out, end at the window, and leave room beside it.
func TestWhereByTheChapter(t *testing.T) {
	for _, window := range windows() {
		for _, m := range mapsAt(window) {
			if e := plan.Check(m, window); e != api.OK {
				t.Fatalf("Check(%v, %d) = %d", m, window, e)
			}
			for table := range 4 {
				for from := max(0, window-6); from < min(65536, window+14); from++ {
					for to := from + 1; to <= min(65536, window+14); to++ {
						s := sp(table, from, to)
						if got := plan.Where(m, window, s); got != where(m, window, s) {
							t.Fatalf("Where(%v, %d, %v) = %d", m, window, s, got)
						}
					}
				}
			}
		}
	}
}

// mapsAt are maps that do not meet the window.
func mapsAt(window int) [][]api.Span {
	maps := [][]api.Span{nil, full(window), row(0, window, window+8, 3, window+3, window+5)}
	if window > 3 {
		maps = append(maps, row(2, 0, window), row(1, 0, 9, 2, window-4, window-1), row(2, window-3, window-2, 2, window-1, window))
	}
	if window < 65520 {
		maps = append(maps, row(2, window+8, 65536), row(2, window+9, window+10, 2, window+11, window+13), row(2, window+8, window+9))
	}
	if window > 3 && window < 65520 {
		maps = append(maps, row(2, window-4, window, 2, window+8, window+9, 3, 0, 65536))
	}
	return maps
}

// With a map of all that there can be, each address is in the window or else of the data; with none, in the
// window or else outside.
func TestWhereOfEveryAddress(t *testing.T) {
	for _, window := range windows() {
		m := full(window)
		for table := range 4 {
			for addr := range 65536 {
				s, other := sp(table, addr, addr+1), plan.Outside
				want := plan.Data
				if table == 2 && addr >= window && addr <= window+7 {
					want, other = plan.Control, plan.Control
				}
				if got := plan.Where(m, window, s); got != want {
					t.Fatalf("Where(full, %d, %v) = %d", window, s, got)
				}
				if got := plan.Where(nil, window, s); got != other {
					t.Fatalf("Where(nil, %d, %v) = %d", window, s, got)
				}
			}
		}
	}
}

// Promise 13.3.

// What a client asks for is of one kind: a span of data has only data in it, and one of the window only the
// window, so that the reply hangs on nothing but the map, the window and the addresses asked for.
func TestPartsAreAsTheWhole(t *testing.T) {
	r := rand.New(rand.NewSource(13))
	var seen [3]bool
	for range 20000 {
		m, window := randomMap(r)
		if plan.Check(m, window) != api.OK {
			continue
		}
		from := r.Intn(120)
		s := sp(r.Intn(4), from, from+1+r.Intn(12))
		got := plan.Where(m, window, s)
		if got != where(m, window, s) {
			t.Fatalf("Where(%v, %d, %v) = %d", m, window, s, got)
		}
		seen[got] = true
		for addr := s.From; addr < s.To; addr++ {
			part := plan.Where(m, window, sp(s.Table, addr, addr+1))
			if got != plan.Outside && part != got {
				t.Fatalf("%d of %v is %d, and all of it %d", addr, s, part, got)
			}
		}
	}
	if slices.Contains(seen[:], false) {
		t.Error(seen)
	}
}

// randomMap is a canonical list of the lower addresses, and a window among them.
func randomMap(r *rand.Rand) ([]api.Span, int) {
	var m []api.Span
	for table := range 4 {
		for at := r.Intn(20); at < 120; {
			to := at + 1 + r.Intn(30)
			m = append(m, sp(table, at, to))
			at = to + 1 + r.Intn(30)
		}
	}
	return m, r.Intn(120)
}

// What goes in stays as it is.
func TestArgumentsStayAsTheyAre(t *testing.T) {
	r := rand.New(rand.NewSource(3))
	for range 2000 {
		m, window := randomMap(r)
		whole := append(slices.Clone(m), row(-5, 1, -5, -5, 2, -5, -5, 3, -5)...)
		was := slices.Clone(whole)
		m = whole[:len(m)]
		plan.Check(m, window)
		for from := 0; from < 120; from += 7 {
			plan.Where(m, window, sp(2, from, from+5))
		}
		if !slices.Equal(whole, was) {
			t.Fatalf("%v became %v", was, whole)
		}
	}
}

// For maps that Check refuses nothing is promised but that each call ends.
func TestEveryCallEnds(t *testing.T) {
	numbers := append(wrong(), 0, 3, 100, 65528)
	r := rand.New(rand.NewSource(31))
	pick := func() int { return numbers[r.Intn(len(numbers))] }
	for range 50000 {
		m := make([]api.Span, r.Intn(6))
		for i := range m {
			m[i] = sp(r.Intn(6)-1, pick(), pick())
		}
		s := sp(r.Intn(6)-1, pick(), pick())
		plan.Check(m, pick())
		plan.Where(m, pick(), s)
		plan.Where(m, math.MaxInt, sp(2, 0, 1))
		plan.Where(m, math.MinInt, sp(2, 65535, 65536))
	}
}
