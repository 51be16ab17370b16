package kind_test

import (
	"math"
	"testing"

	"busbar/api"
	"busbar/kind"
)

// The numbers stand here as the chapter writes them, and not by their names in package api.
var functions = []struct {
	fn            int
	table         int
	named         bool
	reads, writes bool
	mostReads     int
	mostWrites    int
}{
	{1, 0, true, true, false, 2000, 0},
	{2, 1, true, true, false, 2000, 0},
	{3, 2, true, true, false, 125, 0},
	{4, 3, true, true, false, 125, 0},
	{5, 0, true, false, true, 0, 1},
	{6, 2, true, false, true, 0, 1},
	{15, 0, true, false, true, 0, 1968},
	{16, 2, true, false, true, 0, 123},
	{22, 2, true, true, true, 0, 1},
	{23, 2, true, true, true, 125, 121},
	{43, 0, false, false, false, 0, 0},
}

// others gives numbers that are no function: those beside the functions, those that have a function in
// their low bits, and the ends of int.
func others() []int {
	known := make(map[int]bool)
	for _, f := range functions {
		known[f.fn] = true
	}
	l := []int{math.MinInt, math.MinInt + 1, math.MinInt + 43, math.MaxInt, math.MaxInt - 1}
	for fn := -300; fn <= 70000; fn++ {
		if !known[fn] {
			l = append(l, fn)
		}
	}
	for _, f := range functions {
		l = append(l, -f.fn, ^f.fn, f.fn+128, f.fn+256, f.fn-256, f.fn+1<<16, f.fn+1<<31, f.fn+1<<32, f.fn-1<<32)
	}
	return l
}

// Promise 3.1.

func TestKnown(t *testing.T) {
	for _, f := range functions {
		if !kind.Known(f.fn) {
			t.Errorf("Known(%d) = false", f.fn)
		}
	}
	for _, fn := range others() {
		if kind.Known(fn) {
			t.Errorf("Known(%d) = true", fn)
		}
	}
}

func TestTable(t *testing.T) {
	for _, f := range functions {
		if table, ok := kind.Table(f.fn); table != f.table || ok != f.named {
			t.Errorf("Table(%d) = %d, %v, want %d, %v", f.fn, table, ok, f.table, f.named)
		}
	}
	for _, fn := range others() {
		if table, ok := kind.Table(fn); table != 0 || ok {
			t.Errorf("Table(%d) = %d, %v, want 0, false", fn, table, ok)
		}
	}
}

func TestTableByTheNamesOfTheFunctions(t *testing.T) {
	for fn, want := range map[int]int{
		api.ReadCoils: api.Coil, api.WriteCoil: api.Coil, api.WriteCoils: api.Coil,
		api.ReadInputs:  api.Input,
		api.ReadHolding: api.Holding, api.WriteHolding: api.Holding, api.WriteHoldings: api.Holding,
		api.MaskHolding: api.Holding, api.WriteRead: api.Holding,
		api.ReadRegisters: api.Register,
	} {
		if table, ok := kind.Table(fn); table != want || !ok {
			t.Errorf("Table(%d) = %d, %v, want %d, true", fn, table, ok, want)
		}
	}
}

func TestReadsAndWrites(t *testing.T) {
	for _, f := range functions {
		if got := kind.Reads(f.fn); got != f.reads {
			t.Errorf("Reads(%d) = %v", f.fn, got)
		}
		if got := kind.Writes(f.fn); got != f.writes {
			t.Errorf("Writes(%d) = %v", f.fn, got)
		}
	}
	for _, fn := range others() {
		if kind.Reads(fn) {
			t.Errorf("Reads(%d) = true", fn)
		}
		if kind.Writes(fn) {
			t.Errorf("Writes(%d) = true", fn)
		}
	}
}

// Promise 3.2.

func TestMost(t *testing.T) {
	for _, f := range functions {
		if reads, writes := kind.Most(f.fn); reads != f.mostReads || writes != f.mostWrites {
			t.Errorf("Most(%d) = %d, %d, want %d, %d", f.fn, reads, writes, f.mostReads, f.mostWrites)
		}
	}
	for _, fn := range others() {
		if reads, writes := kind.Most(fn); reads != 0 || writes != 0 {
			t.Errorf("Most(%d) = %d, %d, want 0, 0", fn, reads, writes)
		}
	}
}

func TestBits(t *testing.T) {
	for table, want := range map[int]bool{
		api.Coil: true, api.Input: true, api.Holding: false, api.Register: false,
	} {
		if got := kind.Bits(table); got != want {
			t.Errorf("Bits(%d) = %v", table, got)
		}
	}
}

func TestBitsOfNoTable(t *testing.T) {
	for _, table := range []int{
		-1, -2, -3, -4, 4, 5, 8, 255, 256, 257, -256, -255, 65536, 65537, 1 << 32, 1<<32 + 1,
		math.MaxInt, math.MaxInt - 1, math.MinInt, math.MinInt + 1,
	} {
		if kind.Bits(table) {
			t.Errorf("Bits(%d) = true", table)
		}
	}
}
