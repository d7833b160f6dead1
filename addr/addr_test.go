package addr_test

import (
	"fmt"
	"math"
	"regexp"
	"slices"
	"strconv"
	"strings"
	"testing"

	"lattice/addr"
	"lattice/api"
)

// columns are the names of all columns, written out.
func columns() []string {
	return strings.Fields(`A B C D E F G H I J K L M N O P Q R S T U V W X Y Z
		AA AB AC AD AE AF AG AH AI AJ AK AL AM AN AO AP AQ AR AS AT AU AV AW AX AY AZ
		BA BB BC BD BE BF BG BH BI BJ BK BL`)
}

func cell(col, row int) addr.Cell { return addr.Cell{Col: col, Row: row} }

func area(fromCol, fromRow, toCol, toRow int) addr.Area {
	return addr.Area{From: cell(fromCol, fromRow), To: cell(toCol, toRow)}
}

func ref(col, row int, fixCol, fixRow bool) addr.Ref {
	return addr.Ref{Cell: cell(col, row), FixCol: fixCol, FixRow: fixRow}
}

// one is a reference to a cell that isn't fixed.
func one(col, row int) addr.Ref { return ref(col, row, false, false) }

// badCells are cells just beyond each edge, and far beyond.
func badCells() []addr.Cell {
	all := []addr.Cell{cell(64, 1024), cell(-1, -1), cell(math.MaxInt, math.MaxInt), cell(math.MinInt, math.MinInt)}
	for _, col := range []int{-1, 64, 65, 256, 1 << 32, -1 << 32, math.MaxInt, math.MinInt} {
		all = append(all, cell(col, 0), cell(col, 1023))
	}
	for _, row := range []int{-1, 1024, 1025, 65536, 1 << 32, -1 << 32, math.MaxInt, math.MinInt} {
		all = append(all, cell(0, row), cell(63, row))
	}
	return all
}

// badAreas are areas with a corner that isn't good, with corners out of order, and with too many cells.
func badAreas() []addr.Area {
	var all []addr.Area
	for _, c := range badCells() {
		all = append(all, addr.Area{From: c, To: c}, addr.Area{From: c, To: cell(63, 1023)}, addr.Area{To: c}, addr.Area{From: c}, addr.Area{From: cell(63, 1023), To: c})
	}
	return append(all,
		area(1, 0, 0, 0), area(0, 1, 0, 0), area(1, 1, 0, 0), area(1, 0, 0, 1), area(0, 1, 1, 0), area(63, 1023, 0, 0),
		area(0, 0, 63, 64), area(0, 959, 63, 1023), area(0, 0, 4, 1023), area(0, 0, 1, 2048), area(0, 0, 16, 240), area(0, 0, 63, 1023),
		area(math.MinInt, math.MinInt, math.MaxInt, math.MaxInt), area(math.MaxInt, math.MaxInt, math.MinInt, math.MinInt))
}

// names are texts that are names of sheets and books.
func names() []string {
	return []string{"S", "s", "_", "__", "A1", "a1_B", "Z9", "_1", "zA", "abcdefghijklmnop", "ABCDEFGHIJKLMNOP", "_234567890123456", "TRUE"}
}

// notNames are texts that aren't.
func notNames() []string {
	return []string{"", "1", "1a", "0_", "9", "a b", " a", "a ", "a!", "[a]", "a]", "a:b", "$a", "a$", "a-b", "a.b", "a/b", "ä", "aä", "\xff", "a\x00", "\x00", "a\n", "@", "[", "`", "{", "/", "abcdefghijklmnopq", strings.Repeat("a", 255), strings.Repeat("a", 272), strings.Repeat("a", 1<<16)}
}

// TestCell holds P4.1's Good and Text of each cell that may be, and of those beyond the edges.
func TestCell(t *testing.T) {
	all := columns()
	if len(all) != api.MaxCols {
		t.Fatalf("%d columns are written out", len(all))
	}
	for col, letters := range all {
		for row := range api.MaxRows {
			c := cell(col, row)
			if want := letters + strconv.Itoa(row+1); !c.Good() || c.Text() != want {
				t.Fatalf("%v: %v, %q; want %q", c, c.Good(), c.Text(), want)
			}
		}
	}
	for _, c := range badCells() {
		if c.Good() || c.Text() != "" {
			t.Errorf("%v: %v, %q", c, c.Good(), c.Text())
		}
	}
	for want, c := range map[string]addr.Cell{"A1": {}, "Z10": cell(25, 9), "AA1": cell(26, 0), "AB1": cell(27, 0), "AZ100": cell(51, 99), "BA1": cell(52, 0), "BL1024": cell(63, 1023)} {
		if c.Text() != want {
			t.Errorf("%v: %q; want %q", c, c.Text(), want)
		}
	}
}

// TestRefText holds P4.1's Text of references, and that one is good as its cell is.
func TestRefText(t *testing.T) {
	for _, x := range []struct {
		r    addr.Ref
		want string
	}{
		{one(0, 0), "A1"}, {ref(0, 0, true, false), "$A1"}, {ref(0, 0, false, true), "A$1"}, {ref(0, 0, true, true), "$A$1"},
		{one(63, 1023), "BL1024"}, {ref(63, 1023, true, false), "$BL1024"}, {ref(63, 1023, false, true), "BL$1024"}, {ref(63, 1023, true, true), "$BL$1024"},
	} {
		if got := x.r.Text(); got != x.want || !x.r.Good() {
			t.Errorf("%v: %q, %v; want %q", x.r, got, x.r.Good(), x.want)
		}
	}
	for _, c := range badCells() {
		for _, r := range []addr.Ref{{Cell: c}, {Cell: c, FixCol: true}, {Cell: c, FixRow: true}, {Cell: c, FixCol: true, FixRow: true}} {
			if r.Good() || r.Text() != "" {
				t.Errorf("%v: %v, %q", r, r.Good(), r.Text())
			}
		}
	}
}

// TestName holds P4.1's Name: at names and others, at each byte at the first place and behind, and at each length.
func TestName(t *testing.T) {
	for _, s := range names() {
		if !addr.Name(s) {
			t.Errorf("%q is no name", s)
		}
	}
	for _, s := range notNames() {
		if addr.Name(s) {
			t.Errorf("%.40q is a name", s)
		}
	}
	const first, digits = "ABCDEFGHIJKLMNOPQRSTUVWXYZabcdefghijklmnopqrstuvwxyz_", "0123456789"
	for i := range 256 {
		b := string([]byte{byte(i)})
		ahead, behind := strings.Contains(first, b), strings.Contains(first+digits, b)
		for s, want := range map[string]bool{b: ahead, b + "x": ahead, "x" + b: behind, "x" + b + "x": behind, "abcdefghijklmno" + b: behind} {
			if addr.Name(s) != want {
				t.Errorf("Name(%q): %v", s, !want)
			}
		}
	}
	for n := range 600 {
		if want := n >= 1 && n <= 16; addr.Name(strings.Repeat("n", n)) != want {
			t.Errorf("a name of %d letters: %v", n, !want)
		}
	}
}

// TestGoodArea holds P4.1 and P4.2 of areas up to their limit, with the counts written out.
func TestGoodArea(t *testing.T) {
	for _, x := range []struct {
		a    addr.Area
		size int
	}{
		{area(0, 0, 0, 0), 1}, {area(63, 1023, 63, 1023), 1}, {area(0, 0, 1, 0), 2}, {area(0, 0, 0, 1), 2}, {area(1, 1, 2, 2), 4}, {area(2, 3, 5, 9), 28},
		{area(0, 0, 63, 0), 64}, {area(0, 0, 0, 1023), 1024}, {area(60, 0, 63, 1023), 4096}, {area(0, 0, 3, 1023), 4096},
		{area(0, 0, 63, 63), 4096}, {area(0, 960, 63, 1023), 4096}, {area(0, 0, 15, 255), 4096}, {area(1, 0, 63, 64), 4095}, {area(0, 0, 4, 818), 4095},
	} {
		if !x.a.Good() || x.a.Size() != x.size {
			t.Errorf("%v: %v, %d; want %d", x.a, x.a.Good(), x.a.Size(), x.size)
		}
		holdCells(t, x.a)
	}
}

// holdCells holds that a good area's cells are those of the whole sheet that lie in it, row by row.
func holdCells(t *testing.T, a addr.Area) {
	t.Helper()
	var want []addr.Cell
	for row := range api.MaxRows {
		for col := range api.MaxCols {
			in := col >= a.From.Col && col <= a.To.Col && row >= a.From.Row && row <= a.To.Row
			if in {
				want = append(want, cell(col, row))
			}
			if a.Has(cell(col, row)) != in {
				t.Fatalf("%v has %v: %v", a, cell(col, row), !in)
			}
		}
	}
	if got := a.Cells(); !slices.Equal(got, want) || a.Size() != len(want) {
		t.Errorf("%v: %d cells, %d told; want %d", a, len(got), a.Size(), len(want))
	}
	for _, c := range badCells() {
		if a.Has(c) {
			t.Errorf("%v has %v", a, c)
		}
	}
}

// TestCellsInOrder holds P4.2's order of cells as it is written out.
func TestCellsInOrder(t *testing.T) {
	if got := fmt.Sprint(area(1, 1, 3, 2).Cells()); got != "[{1 1} {2 1} {3 1} {1 2} {2 2} {3 2}]" {
		t.Errorf("B2:D3: %s", got)
	}
}

// TestCellsAreNew holds that what is answered is nobody else's.
func TestCellsAreNew(t *testing.T) {
	a := area(0, 0, 1, 1)
	first := a.Cells()
	second := a.Cells()
	for i := range first {
		first[i] = cell(9, 9)
	}
	_ = append(first[:0], cell(8, 8))
	if fmt.Sprint(second) != "[{0 0} {1 0} {0 1} {1 1}]" || fmt.Sprint(a.Cells()) != fmt.Sprint(second) {
		t.Errorf("another list's cells are %v", second)
	}
}

// TestBadArea holds that an area that isn't good has nothing, and meets nothing.
func TestBadArea(t *testing.T) {
	for _, a := range badAreas() {
		if a.Good() || a.Size() != 0 || len(a.Cells()) != 0 {
			t.Errorf("%v: %v, %d, %d cells", a, a.Good(), a.Size(), len(a.Cells()))
		}
		for _, c := range append(badCells(), a.From, a.To, cell(0, 0), cell(1, 1), cell(63, 1023)) {
			if a.Has(c) {
				t.Errorf("%v has %v", a, c)
			}
		}
		for _, b := range []addr.Area{{}, area(0, 0, 63, 63), area(60, 0, 63, 1023), area(63, 1023, 63, 1023), a} {
			holdApart(t, a, b)
			holdApart(t, b, a)
		}
	}
}

func holdApart(t *testing.T, a, b addr.Area) {
	t.Helper()
	if m, ok := a.Meet(b); ok || m != (addr.Area{}) {
		t.Errorf("%v and %v meet: %v, %v", a, b, m, ok)
	}
}

// smallAreas are all areas with cells of four columns and four rows.
func smallAreas() []addr.Area {
	var all []addr.Area
	for n := range 256 {
		if a := area(n&3, n>>2&3, n>>4&3, n>>6&3); a.From.Col <= a.To.Col && a.From.Row <= a.To.Row {
			all = append(all, a)
		}
	}
	return all
}

// TestMeet holds P4.2's Meet at each pair of small areas, cell by cell, and at great ones.
func TestMeet(t *testing.T) {
	for _, a := range smallAreas() {
		for _, b := range smallAreas() {
			var want []addr.Cell
			for _, c := range a.Cells() {
				if slices.Contains(b.Cells(), c) {
					want = append(want, c)
				}
			}
			if m, ok := a.Meet(b); len(want) == 0 {
				holdApart(t, a, b)
			} else if !ok || !m.Good() || !slices.Equal(m.Cells(), want) {
				t.Errorf("%v and %v meet: %v, %v; want %v", a, b, m, ok, want)
			}
		}
	}
	for _, x := range []struct{ a, b, want addr.Area }{
		{area(0, 0, 63, 63), area(0, 0, 3, 1023), area(0, 0, 3, 63)},
		{area(0, 0, 63, 63), area(60, 60, 63, 100), area(60, 60, 63, 63)},
		{area(0, 0, 63, 63), area(0, 0, 63, 63), area(0, 0, 63, 63)},
		{area(0, 960, 63, 1023), area(60, 0, 63, 1023), area(60, 960, 63, 1023)},
		{area(2, 2, 5, 5), area(3, 3, 4, 4), area(3, 3, 4, 4)},
	} {
		for _, pair := range [][2]addr.Area{{x.a, x.b}, {x.b, x.a}} {
			if m, ok := pair[0].Meet(pair[1]); !ok || m != x.want {
				t.Errorf("%v and %v meet: %v, %v; want %v", pair[0], pair[1], m, ok, x.want)
			}
		}
	}
	holdApart(t, area(0, 0, 63, 63), area(0, 64, 63, 64))
	holdApart(t, area(0, 0, 3, 1023), area(4, 0, 4, 1023))
}

// TestBetween holds P4.2's Between, also of cells that aren't good.
func TestBetween(t *testing.T) {
	least, most := math.MinInt, math.MaxInt
	for _, x := range []struct {
		a, b addr.Cell
		want addr.Area
	}{
		{cell(0, 0), cell(0, 0), area(0, 0, 0, 0)},
		{cell(1, 2), cell(3, 4), area(1, 2, 3, 4)},
		{cell(1, 4), cell(3, 2), area(1, 2, 3, 4)},
		{cell(5, 1), cell(5, 0), area(5, 0, 5, 1)},
		{cell(0, 0), cell(63, 1023), area(0, 0, 63, 1023)},
		{cell(-1, 5), cell(64, -7), area(-1, -7, 64, 5)},
		{cell(least, most), cell(most, least), area(least, least, most, most)},
		{cell(least, least), cell(0, 0), area(least, least, 0, 0)},
		{cell(most, 0), cell(most, most), area(most, 0, most, most)},
	} {
		if got := addr.Between(x.a, x.b); got != x.want {
			t.Errorf("between %v and %v: %v; want %v", x.a, x.b, got, x.want)
		}
		if got := addr.Between(x.b, x.a); got != x.want {
			t.Errorf("between %v and %v: %v; want %v", x.b, x.a, got, x.want)
		}
	}
}

// goodFull is a good reference, how it is written, and the area of its cells.
type goodFull struct {
	f    addr.Full
	text string
	a    addr.Area
}

func goodFulls() []goodFull {
	b9 := ref(1, 8, false, true)
	all := []goodFull{
		{addr.Full{}, "A1", area(0, 0, 0, 0)},
		{addr.Full{From: b9}, "B$9", area(1, 8, 1, 8)},
		{addr.Full{Sheet: "S", From: one(63, 1023)}, "S!BL1024", area(63, 1023, 63, 1023)},
		{addr.Full{Book: "b", Sheet: "S", From: ref(26, 9, true, true)}, "[b]S!$AA$10", area(26, 9, 26, 9)},
		{addr.Full{Wide: true}, "A1:A1", area(0, 0, 0, 0)},
		{addr.Full{From: b9, To: b9, Wide: true}, "B$9:B$9", area(1, 8, 1, 8)},
		{addr.Full{From: one(0, 0), To: ref(2, 8, true, true), Wide: true, Sheet: "S", Book: "B1"}, "[B1]S!A1:$C$9", area(0, 0, 2, 8)},
		{addr.Full{From: ref(1, 0, true, true), To: one(1, 1), Wide: true}, "$B$1:B2", area(1, 0, 1, 1)},
		{addr.Full{To: one(63, 63), Wide: true}, "A1:BL64", area(0, 0, 63, 63)},
		{addr.Full{Sheet: "_", From: one(0, 0), To: one(3, 1023), Wide: true}, "_!A1:D1024", area(0, 0, 3, 1023)},
	}
	for _, name := range names() {
		all = append(all,
			goodFull{addr.Full{Sheet: name, From: b9}, name + "!B$9", area(1, 8, 1, 8)},
			goodFull{addr.Full{Book: name, Sheet: name, From: b9}, "[" + name + "]" + name + "!B$9", area(1, 8, 1, 8)})
	}
	return all
}

// TestFull holds P4.1 and P4.4's Area of references that are good, and that each is read as it is written.
func TestFull(t *testing.T) {
	for _, x := range goodFulls() {
		if !x.f.Good() || x.f.Text() != x.text || x.f.Area() != x.a {
			t.Errorf("%v: %v, %q, %v; want %q, %v", x.f, x.f.Good(), x.f.Text(), x.f.Area(), x.text, x.a)
		}
		holdParse(t, x.text, x.f, api.OK)
	}
}

// badFulls are references that aren't good, each for one reason.
func badFulls() []addr.Full {
	all := []addr.Full{
		{Book: "B"}, {Book: "B", To: one(1, 1), Wide: true},
		{To: one(1, 0)}, {To: one(0, 1)}, {To: ref(0, 0, true, false)}, {To: ref(0, 0, false, true)}, {From: one(1, 1), To: one(1, 1)}, {To: one(-1, 0)},
		{From: one(1, 1), Wide: true}, {From: one(1, 0), To: one(0, 5), Wide: true}, {From: one(0, 1), To: one(5, 0), Wide: true},
		{To: one(63, 64), Wide: true}, {To: one(4, 1023), Wide: true}, {To: one(63, 1023), Wide: true},
	}
	for _, s := range notNames() {
		if s != "" {
			all = append(all, addr.Full{Sheet: s}, addr.Full{Book: s, Sheet: "S"}, addr.Full{Book: "B", Sheet: s}, addr.Full{Book: s})
		}
	}
	for _, c := range badCells() {
		r := addr.Ref{Cell: c}
		all = append(all, addr.Full{From: r}, addr.Full{From: r, To: r, Wide: true}, addr.Full{To: r, Wide: true}, addr.Full{From: r, To: one(63, 1023), Wide: true}, addr.Full{To: r})
	}
	return all
}

// TestBadFull holds that a reference that isn't good has no text and no cells.
func TestBadFull(t *testing.T) {
	for _, f := range badFulls() {
		if f.Good() || f.Text() != "" || f.Area() != (addr.Area{}) {
			t.Errorf("%.200v: %v, %q, %v", f, f.Good(), f.Text(), f.Area())
		}
	}
}

// holdRef holds what ParseRef answers.
func holdRef(t *testing.T, s string, want addr.Ref, e api.Errno) {
	t.Helper()
	if got, ge := addr.ParseRef(s); got != want || ge != e {
		t.Errorf("ParseRef(%.80q): %v, %d; want %v, %d", s, got, ge, want, e)
	}
}

// holdParse holds what Parse answers.
func holdParse(t *testing.T, s string, want addr.Full, e api.Errno) {
	t.Helper()
	if got, ge := addr.Parse(s); got != want || ge != e {
		t.Errorf("Parse(%.80q): %v, %d; want %v, %d", s, got, ge, want, e)
	}
}

// TestParseRef holds P4.3 at each cell that may be, written in great and in small letters, fixed or not.
func TestParseRef(t *testing.T) {
	for col, letters := range columns() {
		for row := range api.MaxRows {
			r := ref(col, row, row%2 == 0, row%3 == 0)
			s := letters
			if row%4 < 2 {
				s = strings.ToLower(s)
			}
			if r.FixCol {
				s = "$" + s
			}
			if r.FixRow {
				s += "$"
			}
			s += strconv.Itoa(row + 1)
			holdRef(t, s, r, api.OK)
			holdParse(t, s, addr.Full{From: r}, api.OK)
		}
	}
	holdRef(t, "aB1", one(27, 0), api.OK)
	holdRef(t, "Bl$1024", ref(63, 1023, false, true), api.OK)
}

// TestParseRefErrors holds P4.3's errors, and that Parse has them too.
func TestParseRefErrors(t *testing.T) {
	for _, s := range []string{"BM1", "bm1", "$BM1", "A1025", "A$1025", "BL1025", "BM1024", "BM1025", "ZZ1", "CA1", "AAA1", "aaa1", "ZZZ99999", "$zzz$99999", "A2000", "A9999", "A10000", "A99999", "A65537", "AAB1"} {
		holdRef(t, s, addr.Ref{}, api.ErrRange)
		holdParse(t, s, addr.Full{}, api.ErrRange)
	}
	for _, s := range []string{
		"", "$", "$$", "A", "$A", "A$", "$A$", "1", "$1", "12", "A0", "A00", "A01", "A$0", "A$01", "A00001", "BM0", "AAAA1", "ZZZZ1", "AAAA0", "A100000", "A999999", "A18446744073709551617",
		"A1$", "$$A1", "A$$1", "A1A", "A1A1", "1A", "A 1", " A1", "A1 ", "A1\n", "A1\x00", "A-1", "A+1", "A1.0", "A1.", "A1,", "A_1", "_A1", "Ä1", "A\xff1", "\xc3A1", "A\u0661", "\uff211", "@1", "[1", "`1", "{1", "A/", "A:", "A;", "AA", "A$A", "$1$A", "=A1",
		strings.Repeat("A", 1<<16) + "1", "A" + strings.Repeat("1", 1<<16), strings.Repeat("$", 1<<16),
	} {
		holdRef(t, s, addr.Ref{}, api.ErrForm)
		holdParse(t, s, addr.Full{}, api.ErrForm)
	}
	for _, s := range []string{"A1:B2", "S!A1", "[B]S!A1", "A1:A1"} { // Parse has these
		holdRef(t, s, addr.Ref{}, api.ErrForm)
	}
}

// TestParse holds P4.4 at references that aren't written as they are told.
func TestParse(t *testing.T) {
	for _, x := range []struct{ s, want string }{
		{"[B1]S!$c$9:A1", "[B1]S!A1:$C$9"},
		{"bl1024", "BL1024"}, {"S!a1", "S!A1"}, {"s!a1", "s!A1"}, {"[bK]sH!$aa$1", "[bK]sH!$AA$1"},
		{"B2:A1", "A1:B2"}, {"B1:A2", "A1:B2"}, {"A2:B1", "A1:B2"}, {"b2:b2", "B2:B2"}, {"A1!A1:A1", "A1!A1:A1"},
		{"A$9:$C1", "A1:$C$9"}, {"$B2:B$1", "$B$1:B2"}, {"B$1:$B2", "B$1:$B2"}, {"B2:$B$2", "B2:$B$2"}, {"$B$2:B2", "$B$2:B2"}, {"$C2:A$2", "A2:$C$2"},
		{"bl64:a1", "A1:BL64"}, {"D1024:A1", "A1:D1024"}, {"BL1024:BL1024", "BL1024:BL1024"},
	} {
		if f, e := addr.Parse(x.s); f.Text() != x.want || e != api.OK {
			t.Errorf("Parse(%q): %q, %d; want %q", x.s, f.Text(), e, x.want)
		}
	}
}

// TestParseCorners holds P4.4's corners: each column and each row, however it is fixed, whichever is named first.
func TestParseCorners(t *testing.T) {
	type side struct {
		at  int
		fix bool
	}
	inOrder := func(a, b side) (side, side) {
		all := []side{a, b}
		slices.SortStableFunc(all, func(x, y side) int { return x.at - y.at })
		return all[0], all[1]
	}
	named := func(col, row side) addr.Ref { return ref(col.at, row.at, col.fix, row.fix) }
	var sides []side
	for _, at := range []int{0, 5, 25, 26, 40} {
		sides = append(sides, side{at, false}, side{at, true})
	}
	for _, col1 := range sides {
		for _, col2 := range sides {
			for _, row1 := range sides {
				for _, row2 := range sides {
					left, right := inOrder(col1, col2)
					top, bottom := inOrder(row1, row2)
					s := named(col1, row1).Text() + ":" + named(col2, row2).Text()
					holdParse(t, s, addr.Full{From: named(left, top), To: named(right, bottom), Wide: true}, api.OK)
				}
			}
		}
	}
}

// TestParseErrors holds P4.4's errors, and their order.
func TestParseErrors(t *testing.T) {
	for _, s := range []string{"A1:BL65", "BL65:A1", "A65:BL1", "A1:E1024", "a1:bl1024", "BL1024:A1", "S!A1:BL65", "[B]S!$A$1:$BL$65", "A960:BL1024", "A1:Q241"} {
		holdParse(t, s, addr.Full{}, api.ErrLong)
	}
	for _, s := range []string{"A1:BM1", "BM1:A1", "A1:A1025", "A1025:A1", "BM1:BM1", "A1:ZZZ99999", "S!BM1", "[B]S!A1025", "[B]S!A1:BM1", "S!BM1:A1025", "A1:BM1024", "A1025:BL1"} {
		holdParse(t, s, addr.Full{}, api.ErrRange)
	}
	for _, s := range []string{
		"A1:", ":A1", ":", "A1::B2", "A1:B2:C3", "A1:B2:", "A1:B", "A:B", "1:2", "A1:B0", "A0:B1", "A1:B01", "A1 :B2", "A1: B2", "A1:S!B2", "S!A1:S!B2", "A1:[B]S!B2", "A1-B2", "A1;B2", "A1..B2",
		"BM1:B", "A1025:A0", "A0:BM1", "BM1:", "A1:BL65:", "A1:BL065", "AAAA1:BM1", "BM1:A100000", "1S!BM1", "[B]BM1", "!BM1", "[]S!BM1", "[B]!A1:BL65", "S T!A1:BL65",
		"!A1", "S!", "S!!A1", "S!T!A1", "S! A1", "S !A1", " S!A1", "1S!A1", "$S!A1", "S$!A1", "S.T!A1", "'S'!A1", "S!1", "S!A", "S!=A1", "S:A1", "Ä!A1",
		"[B]A1", "[B]!A1", "[B]", "[B]S", "[B]S!", "[B]SA1", "[B] S!A1", "[B ]S!A1", " [B]S!A1", "[]S!A1", "[]A1", "[B S!A1", "B]S!A1", "[[B]S!A1", "[B]]S!A1", "[B][C]S!A1", "[1]S!A1", "[B!]S!A1", "S![B]A1", "S[B]!A1", "[B]S!T!A1", "[S!A1]", "[S!A1", "(B)S!A1", "[", "]", "!", "[]", "[]!",
		"abcdefghijklmnopq!A1", "[abcdefghijklmnopq]S!A1", "[B]abcdefghijklmnopq!A1", strings.Repeat("S", 1<<16) + "!A1", "[" + strings.Repeat("S", 1<<16) + "]S!A1", strings.Repeat("A1:", 1<<16), strings.Repeat("[", 1<<16), strings.Repeat("S!", 1<<16) + "A1",
	} {
		holdParse(t, s, addr.Full{}, api.ErrForm)
	}
	for _, s := range notNames() {
		holdParse(t, s+"!A1", addr.Full{}, api.ErrForm)
		holdParse(t, "["+s+"]S!A1", addr.Full{}, api.ErrForm)
		holdParse(t, "[B]"+s+"!A1", addr.Full{}, api.ErrForm)
	}
}

// forms tell by the document's words, without the package, which texts have the form of a reference.
type forms struct {
	cell, full *regexp.Regexp
}

func newForms() forms {
	const cell, name = `\$?[A-Za-z]{1,3}\$?[1-9][0-9]{0,4}`, `[A-Za-z_][A-Za-z0-9_]{0,15}`
	return forms{regexp.MustCompile(`\A` + cell + `\z`), regexp.MustCompile(`\A(?:(?:\[(` + name + `)\])?(` + name + `)!)?(` + cell + `)(?::(` + cell + `))?\z`)}
}

// there: is the cell of that form one of a sheet?
func there(s string, cols []string) bool {
	s = strings.ToUpper(strings.ReplaceAll(s, "$", ""))
	digits := strings.TrimLeft(s, "ABCDEFGHIJKLMNOPQRSTUVWXYZ")
	row, err := strconv.Atoi(digits)
	return err == nil && row >= 1 && row <= 1024 && slices.Contains(cols, strings.TrimSuffix(s, digits))
}

// hold holds at any text that both calls tell just what the forms tell.
func (x forms) hold(t *testing.T, s string, cols []string) {
	t.Helper()
	r, e := addr.ParseRef(s)
	switch {
	case !x.cell.MatchString(s):
		holdRef(t, s, addr.Ref{}, api.ErrForm)
	case !there(s, cols):
		holdRef(t, s, addr.Ref{}, api.ErrRange)
	case e != api.OK || r.Text() != strings.ToUpper(s):
		t.Errorf("ParseRef(%q): %v, %d", s, r, e)
	}
	m := x.full.FindStringSubmatch(s)
	f, e := addr.Parse(s)
	switch {
	case m == nil:
		holdParse(t, s, addr.Full{}, api.ErrForm)
	case !there(m[3], cols) || m[4] != "" && !there(m[4], cols):
		holdParse(t, s, addr.Full{}, api.ErrRange)
	case e == api.ErrLong:
		from, _ := addr.ParseRef(m[3])
		to, _ := addr.ParseRef(m[4])
		if f != (addr.Full{}) || addr.Between(from.Cell, to.Cell).Good() {
			t.Errorf("Parse(%q): %v, %d", s, f, e)
		}
	case e != api.OK || f.Book != m[1] || f.Sheet != m[2] || f.Wide != (m[4] != "") || !f.Good():
		t.Errorf("Parse(%q): %v, %d", s, f, e)
	case m[4] == "" && !strings.HasSuffix(f.Text(), strings.ToUpper(m[3])):
		t.Errorf("Parse(%q): %q", s, f.Text())
	}
}

// TestParseShort holds P4.3 and P4.4 at every short text of signs that references have.
func TestParseShort(t *testing.T) {
	x, cols := newForms(), columns()
	short := []string{""}
	for range 5 {
		var longer []string
		for _, s := range short {
			x.hold(t, s, cols)
			for _, sign := range []string{"A", "z", "$", "1", "0", ":", "!", "[", "]", "_"} {
				longer = append(longer, s+sign)
			}
		}
		short = longer
	}
	for _, s := range short {
		x.hold(t, s, cols)
	}
}

// TestParseBytes holds P4.3 and P4.4 at texts of which one byte is another one, is gone, or comes in.
func TestParseBytes(t *testing.T) {
	x, cols := newForms(), columns()
	for _, s := range []string{"A1", "$b$10", "[B1]S!$c$9:A1", "S_1!BL1024", "[_a]Z!A1:BL64"} {
		for at := range len(s) + 1 {
			for b := range 256 {
				sign := string([]byte{byte(b)})
				x.hold(t, s[:at]+sign+s[at:], cols)
				if at < len(s) {
					x.hold(t, s[:at]+sign+s[at+1:], cols)
					x.hold(t, s[:at]+s[at+1:], cols)
				}
			}
		}
	}
}

// FuzzParse holds P4.3 and P4.4 at any text.
func FuzzParse(f *testing.F) {
	for _, s := range []string{"", "A1", "$zzz$99999", "[B1]S!$c$9:A1", "A1:BL65", "BM1", "S!T!A1"} {
		f.Add(s)
	}
	x, cols := newForms(), columns()
	f.Fuzz(func(t *testing.T, s string) {
		x.hold(t, s, cols)
		if g, e := addr.Parse(s); e == api.OK {
			holdParse(t, g.Text(), g, api.OK)
			if g.Area().Size() != len(g.Area().Cells()) || !g.Area().Has(g.From.Cell) {
				t.Errorf("Parse(%q): %v", s, g.Area())
			}
		}
	})
}
