package move_test

import (
	"math"
	"slices"
	"testing"

	"lattice/addr"
	"lattice/move"
)

// The cuts of tests, all of sheet S.

func rows(at, n int) move.Cut          { return move.Cut{Sheet: "S", At: at, N: n} }
func cols(at, n int) move.Cut          { return move.Cut{Sheet: "S", Cols: true, At: at, N: n} }
func gone(c move.Cut) move.Cut         { c.Gone = true; return c }
func of(s string, c move.Cut) move.Cut { c.Sheet = s; return c }

// odd are ints of every sort, the limits among them.
func odd() []int {
	return []int{math.MinInt, math.MinInt + 1, -1 << 32, -1025, -1024, -65, -64, -2, -1, 0, 1, 2, 62, 63, 64, 65, 1022, 1023, 1024, 1025, 4096, 1 << 32, math.MaxInt - 1024, math.MaxInt - 1, math.MaxInt}
}

// wrong are cuts that may not be.
func wrong() []move.Cut {
	var all []move.Cut
	for _, c := range []move.Cut{
		{}, rows(0, 0), rows(0, -1), rows(0, 1025), rows(-1, 1), rows(-1, 2), rows(1024, 1), rows(1024, 0), rows(1023, 2), rows(1000, 25), rows(1, 1024), rows(1, math.MaxInt), rows(0, math.MinInt), rows(math.MaxInt, 1), rows(math.MinInt, 1), rows(math.MaxInt, math.MaxInt), rows(math.MinInt, math.MinInt), rows(math.MinInt, math.MaxInt),
		cols(0, 0), cols(0, -1), cols(0, 65), cols(-1, 1), cols(64, 1), cols(64, 0), cols(63, 2), cols(40, 25), cols(0, 1024), cols(1, math.MaxInt), cols(math.MaxInt, 1), cols(math.MinInt, math.MinInt),
		of("", rows(0, 1)), of("1", rows(0, 1)), of("1S", rows(0, 1)), of("a b", rows(0, 1)), of("S ", rows(0, 1)), of("S!", rows(0, 1)), of("$S", rows(0, 1)), of("é", cols(0, 1)), of("\x00", cols(0, 1)), of("ABCDEFGHIJKLMNOPQ", cols(0, 1)), of("[B]S", rows(0, 1)),
	} {
		all = append(all, c, gone(c))
	}
	return all
}

// TestGood holds P8.1 of Good.
func TestGood(t *testing.T) {
	for _, c := range []move.Cut{
		rows(0, 1), rows(0, 1024), rows(1023, 1), rows(1, 1023), rows(1000, 24), rows(64, 960), cols(0, 1), cols(0, 64), cols(63, 1), cols(1, 63), cols(40, 24),
		of("s", rows(0, 1)), of("_", rows(0, 1)), of("S1", cols(0, 1)), of("A1", cols(0, 1)), of("TRUE", cols(0, 1)), of("ABCDEFGHIJKLMNOP", rows(0, 1)),
	} {
		if !c.Good() || !gone(c).Good() {
			t.Errorf("%+v isn't good", c)
		}
	}
	for _, c := range wrong() {
		if c.Good() {
			t.Errorf("%+v is good", c)
		}
	}
}

// TestGoodLimits holds P8.1 of Good at every number of columns, and at odd ones of both.
func TestGoodLimits(t *testing.T) {
	hold := func(at, n, most int, c move.Cut) {
		t.Helper()
		if want := at >= 0 && at < most && n >= 1 && n <= most-at; c.Good() != want || gone(c).Good() != want {
			t.Errorf("%+v is good: %v; want %v", c, c.Good(), want)
		}
	}
	for at := -2; at < 68; at++ {
		for n := -2; n < 68; n++ {
			hold(at, n, 64, cols(at, n))
		}
	}
	for _, at := range odd() {
		for _, n := range odd() {
			hold(at, n, 64, cols(at, n))
			hold(at, n, 1024, rows(at, n))
		}
	}
}

// stood holds where a cell stands behind a cut, by their names; the empty one: nowhere.
func stood(t *testing.T, c move.Cut, cell, want string) {
	t.Helper()
	r, _ := addr.ParseRef(cell)
	got, ok := c.Cell(r.Cell)
	if ok != (want != "") || ok && got.Text() != want || !ok && got != (addr.Cell{}) {
		t.Errorf("%+v: %s stands at %v, %v; want %q", c, cell, got, ok, want)
	}
}

// spread holds where an area stands behind a cut, likewise.
func spread(t *testing.T, c move.Cut, area, want string) {
	t.Helper()
	f, _ := addr.Parse(area)
	got, ok := c.Area(f.Area())
	if ok != (want != "") || ok && got.From.Text()+":"+got.To.Text() != want || !ok && got != (addr.Area{}) {
		t.Errorf("%+v: %s stands at %v, %v; want %q", c, area, got, ok, want)
	}
}

// TestCells holds P8.1 of Cell, by names written out.
func TestCells(t *testing.T) {
	for cell, want := range map[string]string{"A1": "A1", "B1": "B1", "A2": "A4", "C3": "C5", "BL1022": "BL1024", "A1023": "", "A1024": ""} {
		stood(t, rows(1, 2), cell, want)
	}
	for cell, want := range map[string]string{"A1": "A1", "A2": "", "C3": "", "A4": "A2", "BL1024": "BL1022"} {
		stood(t, gone(rows(1, 2)), cell, want)
	}
	for cell, want := range map[string]string{"A1": "A1", "A1024": "A1024", "B1": "D1", "BJ7": "BL7", "BK7": "", "BL1024": ""} {
		stood(t, cols(1, 2), cell, want)
	}
	for cell, want := range map[string]string{"A1": "A1", "B1": "", "C1024": "", "D1": "B1", "BL1024": "BJ1024"} {
		stood(t, gone(cols(1, 2)), cell, want)
	}
	for _, cell := range []string{"A1", "A512", "BL1024"} {
		stood(t, rows(0, 1024), cell, "")
		stood(t, gone(rows(0, 1024)), cell, "")
		stood(t, cols(0, 64), cell, "")
		stood(t, gone(cols(0, 64)), cell, "")
	}
	stood(t, rows(0, 1023), "A1", "A1024")
	stood(t, rows(0, 1023), "A2", "")
	stood(t, gone(rows(0, 1023)), "A1024", "A1")
	stood(t, rows(1023, 1), "A1023", "A1023")
	stood(t, rows(1023, 1), "A1024", "")
	stood(t, gone(rows(1023, 1)), "A1024", "")
	stood(t, cols(0, 63), "A1", "BL1")
	stood(t, gone(cols(0, 63)), "BL1", "A1")
	stood(t, cols(63, 1), "BL1", "")
	stood(t, of("Other", rows(1, 2)), "A2", "A4") // whichever sheet it is of
}

// TestAreas holds P8.1 of Area, by names written out.
func TestAreas(t *testing.T) {
	for area, want := range map[string]string{
		"A1:A1": "A1:A1", "A1:A2": "A1:A4", "A2:A2": "A4:A4", "A2:B3": "A4:B5", "A1:C9": "A1:C11", "A5:A6": "A7:A8",
		"A1:A1024": "A1:A1024", "A1:A1022": "A1:A1024", "A1:A1023": "A1:A1024", "A1022:B1024": "A1024:B1024", "A1023:A1023": "", "A1023:A1024": "", "A1024:A1024": "",
		"A1:BL62": "A1:BL64", "A1:BL63": "", "A1:BL64": "", "A2:BL65": "A4:BL67", "A1:D1024": "A1:D1024", "B2:E1024": "B4:E1024",
	} {
		spread(t, rows(1, 2), area, want)
	}
	for area, want := range map[string]string{
		"A1:A1": "A1:A1", "A1:A2": "A1:A1", "A1:A3": "A1:A1", "A1:A4": "A1:A2", "A2:A2": "", "A2:A3": "", "A3:C3": "", "A2:A4": "A2:A2", "A3:B4": "A2:B2", "A4:A4": "A2:A2", "A4:C9": "A2:C7",
		"A1:D1024": "A1:D1022", "A2:A1024": "A2:A1022", "A1024:A1024": "A1022:A1022", "A1:BL64": "A1:BL62", "A3:BL66": "A2:BL64",
	} {
		spread(t, gone(rows(1, 2)), area, want)
	}
	for area, want := range map[string]string{
		"A1:A9": "A1:A9", "A1:B1": "A1:D1", "B1:C2": "D1:E2", "A1:BL1": "A1:BL1", "BJ1:BL1": "BL1:BL1", "BK1:BK1": "", "BK1:BL1": "",
		"A1:BL64": "A1:BL64", "A1:BJ64": "A1:BL64", "A1:B1024": "A1:D1024", "A1:C1024": "", "A1:D1024": "", "B1:E1024": "D1:G1024", "BH1:BK1024": "BJ1:BL1024",
	} {
		spread(t, cols(1, 2), area, want)
	}
	for area, want := range map[string]string{
		"A1:A9": "A1:A9", "A1:B1": "A1:A1", "A1:C1": "A1:A1", "A1:D1": "A1:B1", "B1:C1024": "", "B1:B1": "", "C1:D1": "B1:B1", "C1:F1024": "B1:D1024", "D2:BL3": "B2:BJ3", "A1:BL64": "A1:BJ64",
	} {
		spread(t, gone(cols(1, 2)), area, want)
	}
	for _, area := range []string{"A1:A1", "A1:A1024", "A1:BL64", "B961:BL1024"} {
		for _, c := range []move.Cut{rows(0, 1024), gone(rows(0, 1024)), cols(0, 64), gone(cols(0, 64))} {
			spread(t, c, area, "")
		}
	}
	spread(t, rows(1, 1023), "A1:A1024", "A1:A1024")
	spread(t, rows(1, 1023), "A1:A1", "A1:A1")
	spread(t, rows(1, 1023), "A1:E2", "") // 5120 cells
	spread(t, gone(rows(1, 1023)), "A1:D1024", "A1:D1")
	spread(t, gone(rows(0, 1023)), "A1:D1024", "A1:D1")
}

// TestNowhere holds P8.1 of cuts, cells and areas that aren't good.
func TestNowhere(t *testing.T) {
	cell := func(c move.Cut, x addr.Cell) {
		t.Helper()
		if got, ok := c.Cell(x); ok || got != (addr.Cell{}) {
			t.Errorf("%+v: %v stands at %v, %v", c, x, got, ok)
		}
	}
	area := func(c move.Cut, a addr.Area) {
		t.Helper()
		if got, ok := c.Area(a); ok || got != (addr.Area{}) {
			t.Errorf("%+v: %v stands at %v, %v", c, a, got, ok)
		}
	}
	for _, c := range wrong() {
		for _, x := range []addr.Cell{{}, {Col: 5, Row: 5}, {Col: 63, Row: 1023}, {Col: -1, Row: -1}} {
			cell(c, x)
			area(c, addr.Area{From: x, To: x})
			area(c, addr.Area{To: x})
		}
	}
	for _, c := range []move.Cut{rows(0, 1), rows(1, 2), rows(1023, 1), rows(0, 1024), cols(0, 1), cols(1, 2), cols(63, 1), cols(0, 64)} {
		for _, c := range []move.Cut{c, gone(c)} {
			for _, n := range odd() {
				for _, m := range odd() {
					x := addr.Cell{Col: n, Row: m}
					if !x.Good() {
						cell(c, x)
						area(c, addr.Area{From: x, To: x})
						area(c, addr.Area{To: x})
						area(c, addr.Area{From: x, To: addr.Cell{Col: 63, Row: 1023}})
					}
				}
			}
			for _, a := range []addr.Area{
				{From: addr.Cell{Col: 1}, To: addr.Cell{Row: 1}}, {From: addr.Cell{Row: 1}, To: addr.Cell{Col: 1}}, {From: addr.Cell{Col: 9, Row: 9}},
				{To: addr.Cell{Col: 63, Row: 64}}, {To: addr.Cell{Col: 4, Row: 1023}}, {To: addr.Cell{Col: 63, Row: 1023}}, // too great, though what goes would make some of them less
			} {
				area(c, a)
			}
		}
	}
}

// strip is which number, as it was ahead of the cut, each has behind it; -1: a new one. None is left away beyond the end.
func strip(c move.Cut, most int) []int {
	var all []int
	for n := range most {
		all = append(all, n)
	}
	if c.Gone {
		return slices.Delete(all, c.At, c.At+c.N)
	}
	return slices.Insert(all, c.At, slices.Repeat([]int{-1}, c.N)...)
}

// cell is the one with that number of the cut's, and that other number.
func cell(c move.Cut, n, other int) addr.Cell {
	if c.Cols {
		return addr.Cell{Col: n, Row: other}
	}
	return addr.Cell{Col: other, Row: n}
}

// holdCells holds Cell at all numbers of the cut's, beside one of the other ones.
func holdCells(t *testing.T, c move.Cut, most, other int) {
	t.Helper()
	for n, all := 0, strip(c, most); n < most; n++ {
		place := slices.Index(all, n)
		want, is := cell(c, place, other), place >= 0 && place < most
		if !is {
			want = addr.Cell{}
		}
		if got, ok := c.Cell(cell(c, n, other)); got != want || ok != is {
			t.Fatalf("%+v: %v stands at %v, %v; want %v, %v", c, cell(c, n, other), got, ok, want, is)
		}
	}
}

// holdArea holds Area at the area between two numbers of the cut's, and two other ones.
func holdArea(t *testing.T, c move.Cut, all []int, most int, from, to, first, last int) {
	t.Helper()
	a := addr.Area{From: cell(c, from, first), To: cell(c, to, last)}
	if !a.Good() {
		return
	}
	left, right := slices.Index(all, from), slices.Index(all, to)
	if c.Gone {
		left, right = -1, -2
		for place, n := range all {
			if n >= from && n <= to {
				if left < 0 {
					left = place
				}
				right = place
			}
		}
	}
	want := addr.Area{From: cell(c, left, first), To: cell(c, min(right, most-1), last)}
	is := left >= 0 && left < most && (min(right, most-1)-left+1)*(last-first+1) <= 4096
	if !is {
		want = addr.Area{}
	}
	if got, ok := c.Area(a); got != want || ok != is {
		t.Fatalf("%+v: %v stands at %v, %v; want %v, %v", c, a, got, ok, want, is)
	}
}

// TestStrips holds P8.1 against rows and columns that come into a list, and go out of it.
func TestStrips(t *testing.T) {
	for at := range 64 {
		for n := 1; n <= 64-at; n++ {
			for _, c := range []move.Cut{cols(at, n), gone(cols(at, n))} {
				holdCells(t, c, 64, (at*31+n*7)%1024)
			}
		}
	}
	for _, at := range []int{0, 1, 2, 63, 64, 65, 511, 512, 1000, 1022, 1023} {
		for _, n := range []int{1, 2, 3, 63, 64, 65, 511, 512, 513, 959, 960, 1022, 1023, 1024} {
			for _, c := range []move.Cut{rows(at, n), gone(rows(at, n))} {
				if c.Good() {
					holdCells(t, c, 1024, (at+n)%64)
				}
			}
		}
	}
}

// TestStripAreas holds P8.1 of areas likewise.
func TestStripAreas(t *testing.T) {
	some := []int{0, 1, 2, 3, 31, 32, 33, 61, 62, 63}
	for _, at := range some {
		for _, n := range append(some, 64) {
			for _, c := range []move.Cut{cols(at, n), gone(cols(at, n))} {
				if !c.Good() {
					continue
				}
				all := strip(c, 64)
				for from := range 64 {
					for to := from; to < 64; to++ {
						for _, last := range []int{0, 63, 64, 127, 1023} {
							holdArea(t, c, all, 64, from, to, 0, last)
						}
					}
				}
			}
		}
	}
	more := []int{0, 1, 2, 31, 32, 63, 64, 65, 509, 510, 511, 512, 513, 960, 1021, 1022, 1023}
	for _, at := range more {
		for _, n := range append(more, 1024) {
			for _, c := range []move.Cut{rows(at, n), gone(rows(at, n))} {
				if !c.Good() {
					continue
				}
				all := strip(c, 1024)
				for _, from := range more {
					for _, to := range more {
						for _, last := range []int{5, 6, 8, 12, 63} {
							holdArea(t, c, all, 1024, from, to, 5, last)
						}
					}
				}
			}
		}
	}
}
