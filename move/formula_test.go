package move_test

import (
	"math"
	"slices"
	"strings"
	"testing"

	"lattice/addr"
	"lattice/api"
	"lattice/move"
	"lattice/parse"
	"lattice/show"
	"lattice/value"
)

func treeOf(t *testing.T, s string) parse.Tree {
	t.Helper()
	tree, e := parse.Parse(s)
	if e != api.OK {
		t.Fatalf("%.120q: %d", s, e)
	}
	return tree
}

// alike: are two nodes the same? (A list without elements may be nil or not.)
func alike(a, b parse.Node) bool {
	return a.Kind == b.Kind && a.Op == b.Op && a.Value == b.Value && a.Ref == b.Ref && slices.Equal(a.Kids, b.Kids)
}

func same(a, b parse.Tree) bool { return slices.EqualFunc(a, b, alike) }

// copied is a tree that shares nothing with another.
func copied(t parse.Tree) parse.Tree {
	all := slices.Clone(t)
	for i := range all {
		all[i].Kids = append([]int(nil), all[i].Kids...)
	}
	return all
}

// lost is the literal that stands where a reference was.
func lost() parse.Node {
	return parse.Node{Kind: parse.Lit, Value: value.Value{Kind: value.Error, Fail: value.Ref}}
}

// become holds that a tree that was told is t, in which each reference is what is wanted; the empty text: it is lost.
func become(t *testing.T, what string, was, got parse.Tree, e api.Errno, want func(addr.Full) string) {
	t.Helper()
	if e != api.OK || len(got) != len(was) || !got.Good() {
		t.Fatalf("%s: %d nodes of %d, %d", what, len(got), len(was), e)
	}
	for i, n := range was {
		if n.Kind == parse.Ref {
			text := want(n.Ref)
			if text == "" {
				n = lost()
			} else {
				f, e := addr.Parse(text)
				if e != api.OK {
					t.Fatalf("%s: the test's own %q: %d", what, text, e)
				}
				n.Ref = f
			}
		}
		if !alike(n, got[i]) {
			t.Errorf("%s: %s becomes %+v; want %+v", what, show.Formula(was), got[i], n)
		}
	}
}

// sorts is a formula with all sorts of nodes, among them those that no call changes.
const sorts = `-F(A1,"A1",1.5%)^(TRUE&#N/A)<=G()-S!$B2+[B]S!A$2:$C4*SUM(T!A2,x,#REF!)`

// cutTo holds what becomes of a formula of the sheet home.
func cutTo(t *testing.T, c move.Cut, s, home, want string) {
	t.Helper()
	tree := treeOf(t, s)
	kept := copied(tree)
	got, e := c.Formula(tree, home)
	if e != api.OK || !same(got, treeOf(t, want)) {
		t.Errorf("%+v: %s on %s becomes %s, %d; want %s", c, s, home, show.Formula(got), e, want)
	}
	if !same(tree, kept) {
		t.Errorf("%+v: %s is changed itself", c, s)
	}
}

// TestFormula holds P8.2 of formulas written out.
func TestFormula(t *testing.T) {
	for s, want := range map[string]string{
		"A1": "A1", "A2": "A4", "$A$2": "$A$4", "$A2": "$A4", "A$2": "A$4", "A1023": "#REF!", "$A$1024": "#REF!", "A1022": "A1024",
		"A2:B3": "A4:B5", "A1:B2": "A1:B4", "$A1:B$2": "$A1:B$4", "A$1:$B2": "A$1:$B4", "A2:A2": "A4:A4", "A1:A1": "A1:A1", "A2:A1024": "A4:A1024", "A$2:A$1024": "A$4:A$1024", "A1023:A1024": "#REF!", "A1:BL64": "#REF!",
		"1": "1", `"A2"`: `"A2"`, "x": "#NAME?", "TRUE": "TRUE", "#N/A": "#N/A", "F()": "F()", "A2()": "A2()",
		"-A2%":              "-A4%",
		"A1023+A2":          "#REF!+A4",
		"-A1024^A1024%":     "-#REF!^#REF!%",
		"F(A2,A2,G(A1024))": "F(A4,A4,G(#REF!))",
		"S!A2":              "S!A4", "S!A2:A3": "S!A4:A5", "S!A1024": "#REF!", "T!A2": "T!A2", "s!A2": "s!A2", "[S]S!A2": "[S]S!A2", "[B]S!A1024": "[B]S!A1024", "[B]S!A2:A1024": "[B]S!A2:A1024", "S2!A2": "S2!A2",
	} {
		cutTo(t, rows(1, 2), s, "S", want)
	}
	for s, want := range map[string]string{"A2": "A2", "A1024": "A1024", "S!A2": "S!A4", "S!A1024": "#REF!", "T!A2": "T!A2", "T!A1024": "T!A1024", "[T]S!A2": "[T]S!A2", "[S]T!A2": "[S]T!A2", "A2+S!A2": "A2+S!A4"} {
		cutTo(t, rows(1, 2), s, "T", want)
		cutTo(t, rows(1, 2), s, "s", want) // great and small letters are other names
	}
	for s, want := range map[string]string{
		"A1": "A1", "A2": "#REF!", "A3": "#REF!", "$A$3": "#REF!", "A4": "A2", "$A$4": "$A$2", "A2:A4": "A2:A2", "A$2:$A4": "A$2:$A2", "A1:A2": "A1:A1", "$A1:A$2": "$A1:A$1", "A2:A3": "#REF!", "A1:A3": "A1:A1", "A1:A1024": "A1:A1022",
		"S!A3": "#REF!", "T!A3": "T!A3", "[B]S!A3": "[B]S!A3", "SUM(A2:A3,A4,#REF!)": "SUM(#REF!,A2,#REF!)",
	} {
		cutTo(t, gone(rows(1, 2)), s, "S", want)
	}
	for s, want := range map[string]string{"A1": "A1", "B1": "C1", "$B$1": "$C$1", "B1024": "C1024", "BL1": "#REF!", "A1:B1": "A1:C1", "$A1:B$1": "$A1:C$1", "A1:BL1": "A1:BL1", "BL1:BL2": "#REF!", "A1:D1024": "#REF!", "S!B1": "S!C1", "T!B1": "T!B1", "[B]S!BL1": "[B]S!BL1"} {
		cutTo(t, cols(1, 1), s, "S", want)
	}
	for s, want := range map[string]string{"A1": "#REF!", "B1": "A1", "$B$1": "$A$1", "A1:C1": "A1:B1", "$A1:C$1": "$A1:B$1", "A1:A1024": "#REF!", "A1:BL64": "A1:BK64", "S!A1": "#REF!", "[B]S!A1": "[B]S!A1"} {
		cutTo(t, gone(cols(0, 1)), s, "S", want)
	}
	cutTo(t, rows(1, 2), sorts, "S", `-F(A1,"A1",1.5%)^(TRUE&#N/A)<=G()-S!$B4+[B]S!A$2:$C4*SUM(T!A2,x,#REF!)`)
	cutTo(t, gone(rows(0, 2)), sorts, "T", `-F(A1,"A1",1.5%)^(TRUE&#N/A)<=G()-#REF!+[B]S!A$2:$C4*SUM(T!A2,x,#REF!)`)
}

// asked holds a tree's Formula against what Cell and Area of the cut tell.
func asked(t *testing.T, c move.Cut, tree parse.Tree, home string) {
	t.Helper()
	got, e := c.Formula(tree, home)
	become(t, "cut", tree, got, e, func(f addr.Full) string {
		if f.Book != "" || f.Sheet != c.Sheet && (f.Sheet != "" || home != c.Sheet) {
			return f.Text()
		}
		if f.Wide {
			a, ok := c.Area(f.Area())
			f.From.Cell, f.To.Cell = a.From, a.To
			if !ok {
				return ""
			}
			return f.Text()
		}
		x, ok := c.Cell(f.From.Cell)
		f.From.Cell = x
		if !ok {
			return ""
		}
		return f.Text()
	})
}

// refs are references of every book, sheet and fixing of tests, to some cells and areas.
func refs(t *testing.T) []addr.Full {
	t.Helper()
	places := []string{"A1", "B2", "C3", "BK7", "BL8", "A1023", "A1024", "BL1024", "A1:A1", "A1:B2", "B2:C3", "A1:BL64", "A1:D1024", "B3:E9", "BL1024:BL1024", "A1022:BL1024"}
	var all []addr.Full
	for _, place := range places {
		for _, sheet := range []string{"", "S!", "T!", "s!", "[B]S!", "[S]S!", "[B]T!"} {
			for fixed := range 16 {
				f, e := addr.Parse(sheet + place)
				if e != api.OK {
					t.Fatalf("%s: %d", sheet+place, e)
				}
				f.From.FixCol, f.From.FixRow = fixed&1 > 0, fixed&2 > 0
				if f.Wide {
					f.To.FixCol, f.To.FixRow = fixed&4 > 0, fixed&8 > 0
				}
				all = append(all, f)
			}
		}
	}
	return all
}

// heaps are trees of a call with some references each, of all these.
func heaps(all []addr.Full) []parse.Tree {
	var trees []parse.Tree
	for some := range slices.Chunk(all, 32) {
		var tree parse.Tree
		top := parse.Node{Kind: parse.Call, Op: "F"}
		for i, f := range some {
			tree, top.Kids = append(tree, parse.Node{Kind: parse.Ref, Ref: f}), append(top.Kids, i)
		}
		trees = append(trees, append(tree, top))
	}
	return trees
}

// TestFormulaRefs holds P8.2 of references of every sort.
func TestFormulaRefs(t *testing.T) {
	trees := heaps(refs(t))
	for _, c := range []move.Cut{rows(0, 1), rows(1, 1), rows(2, 3), rows(1023, 1), rows(0, 1024), rows(1000, 24), cols(0, 1), cols(1, 1), cols(2, 3), cols(63, 1), cols(0, 64)} {
		for _, c := range []move.Cut{c, gone(c), of("T", c), of("Z", gone(c))} {
			for _, home := range []string{"S", "T", "Z"} {
				for _, tree := range trees {
					asked(t, c, tree, home)
				}
			}
		}
	}
}

// deep is a literal within so many signs.
func deep(n int) parse.Tree {
	tree := parse.Tree{{Kind: parse.Lit, Value: value.N(10000)}}
	for i := range n {
		tree = append(tree, parse.Node{Kind: parse.Neg, Kids: []int{i}})
	}
	return tree
}

// wide is a tree of so many references, and of operators between them.
func wide(n int) parse.Tree {
	tree := parse.Tree{{Kind: parse.Ref}}
	for len(tree) < 2*n-1 {
		tree = append(tree, parse.Node{Kind: parse.Ref, Ref: addr.Full{From: addr.Ref{Cell: addr.Cell{Row: len(tree)}}}})
		tree = append(tree, parse.Node{Kind: parse.Bin, Op: "+", Kids: []int{len(tree) - 2, len(tree) - 1}})
	}
	return tree
}

// bad are trees that aren't good.
func bad() []parse.Tree {
	a1, one := parse.Node{Kind: parse.Ref}, parse.Node{Kind: parse.Lit, Value: value.N(10000)}
	ref := func(f addr.Full) parse.Tree { return parse.Tree{{Kind: parse.Ref, Ref: f}} }
	cell := func(col, row int) addr.Ref { return addr.Ref{Cell: addr.Cell{Col: col, Row: row}} }
	return []parse.Tree{
		nil, {}, {a1, a1}, {one, a1}, {{}}, {{Kind: -1}}, {{Kind: parse.Kinds}}, {{Kind: math.MaxInt}},
		{{Kind: parse.Lit, Value: value.N(-1)}}, {{Kind: parse.Lit, Value: value.Value{Kind: value.Error}}}, {{Kind: parse.Lit, Value: value.Value{Kind: value.Kinds}}},
		{{Kind: parse.Ref, Op: "+"}}, {{Kind: parse.Ref, Value: value.N(1)}}, {a1, {Kind: parse.Ref, Kids: []int{0}}},
		ref(addr.Full{From: cell(64, 0)}), ref(addr.Full{From: cell(0, 1024)}), ref(addr.Full{From: cell(-1, 0)}), ref(addr.Full{From: cell(math.MaxInt, math.MinInt)}), ref(addr.Full{To: cell(1, 0)}), ref(addr.Full{To: addr.Ref{FixRow: true}}), ref(addr.Full{Book: "B"}), ref(addr.Full{Sheet: "1"}), ref(addr.Full{Book: "a b", Sheet: "S"}), ref(addr.Full{From: cell(1, 0), Wide: true}), ref(addr.Full{To: cell(63, 64), Wide: true}),
		{a1, {Kind: parse.Neg}}, {a1, {Kind: parse.Neg, Kids: []int{1}}}, {a1, {Kind: parse.Neg, Kids: []int{-1}}}, {a1, {Kind: parse.Pct, Kids: []int{math.MaxInt}}}, {{Kind: parse.Neg, Kids: []int{0}}},
		{a1, one, {Kind: parse.Bin, Op: "+", Kids: []int{1, 0}}}, {a1, {Kind: parse.Bin, Op: "+", Kids: []int{0, 0}}}, {a1, one, {Kind: parse.Bin, Op: "!", Kids: []int{0, 1}}}, {a1, {Kind: parse.Call, Op: "f", Kids: []int{0}}}, {{Kind: parse.Call}},
		deep(33), deep(200), deep(256), wide(129), wide(1000),
	}
}

// TestBad holds ErrForm of P8.2, P8.3 and P8.4: it is told ahead of all else.
func TestBad(t *testing.T) {
	for i, tree := range bad() {
		hold := func(what string, got parse.Tree, e api.Errno) {
			t.Helper()
			if len(got) > 0 || e != api.ErrForm {
				t.Errorf("%s of bad tree %d: %d nodes, %d", what, i, len(got), e)
			}
		}
		for _, c := range []move.Cut{rows(0, 1), gone(rows(1023, 1)), cols(3, 7), gone(cols(0, 64)), {}, rows(0, 0)} {
			for _, home := range []string{"S", "T", "", "1"} {
				got, e := c.Formula(tree, home)
				hold("Formula", got, e)
			}
		}
		for _, n := range []int{0, 1, -1, math.MaxInt, math.MinInt} {
			got, e := move.Copy(tree, n, n)
			hold("Copy", got, e)
		}
		for _, x := range [][3]string{{"", "S", "T"}, {"B", "S", "T"}, {"1", "S", "T"}, {"", "", "T"}, {"", "S", ""}} {
			got, e := move.Rename(tree, x[0], x[1], x[2])
			hold("Rename", got, e)
		}
	}
}

// TestLimits holds that all calls take trees as deep and as great as these may be.
func TestLimits(t *testing.T) {
	for _, tree := range []parse.Tree{deep(32), append(wide(128), parse.Node{Kind: parse.Neg, Kids: []int{254}})} {
		asked(t, rows(100, 5), tree, "S")
		asked(t, gone(rows(0, 200)), tree, "S")
		got, e := move.Copy(tree, 0, 0)
		if e != api.OK || !same(got, tree) {
			t.Errorf("Copy: %d nodes, %d", len(got), e)
		}
		got, e = move.Rename(tree, "", "S", "T")
		if e != api.OK || !same(got, tree) {
			t.Errorf("Rename: %d nodes, %d", len(got), e)
		}
	}
}

// TestFormulaErrors holds ErrArg of P8.2.
func TestFormulaErrors(t *testing.T) {
	for _, s := range []string{"1", "A1", "[B]T!A1", sorts} {
		tree := treeOf(t, s)
		for _, c := range wrong() {
			for _, home := range []string{"S", "T", c.Sheet} {
				if got, e := c.Formula(tree, home); len(got) > 0 || e != api.ErrArg {
					t.Errorf("%+v on %q: %d nodes, %d", c, home, len(got), e)
				}
			}
		}
		for _, home := range []string{"", "1", "a b", "S!", "[B]S", "é", "\x00", "ABCDEFGHIJKLMNOPQ", strings.Repeat("S", 1<<16)} {
			for _, c := range []move.Cut{rows(0, 1), gone(cols(0, 1)), {}} {
				if got, e := c.Formula(tree, home); len(got) > 0 || e != api.ErrArg {
					t.Errorf("%+v on %.20q: %d nodes, %d", c, home, len(got), e)
				}
			}
		}
		for _, home := range []string{"_", "s", "ABCDEFGHIJKLMNOP", "A1", "TRUE"} {
			if got, e := rows(0, 1).Formula(tree, home); len(got) != len(tree) || e != api.OK {
				t.Errorf("on %q: %d nodes, %d", home, len(got), e)
			}
		}
	}
}

// TestStays holds that a tree that is handed in is neither changed, nor kept, nor read behind its length, nor shared with the answer.
func TestStays(t *testing.T) {
	kept := treeOf(t, sorts)
	long := append(copied(kept), parse.Node{Kind: parse.Kinds}, parse.Node{Kind: parse.Kinds})
	for i := range long {
		long[i].Kids = append(long[i].Kids, math.MinInt)[:len(long[i].Kids)]
	}
	part := long[:len(kept)]
	for what, call := range map[string]func() (parse.Tree, api.Errno){
		"Formula, of another sheet": func() (parse.Tree, api.Errno) { return of("Z", rows(0, 1)).Formula(part, "Y") },
		"Formula":                   func() (parse.Tree, api.Errno) { return rows(0, 1).Formula(part, "S") },
		"Copy, of nothing":          func() (parse.Tree, api.Errno) { return move.Copy(part, 0, 0) },
		"Copy":                      func() (parse.Tree, api.Errno) { return move.Copy(part, 1, 1) },
		"Rename, of another sheet":  func() (parse.Tree, api.Errno) { return move.Rename(part, "", "Z", "Y") },
		"Rename":                    func() (parse.Tree, api.Errno) { return move.Rename(part, "B", "S", "Y") },
	} {
		first, e := call()
		second, _ := call()
		if e != api.OK || !same(first, second) {
			t.Fatalf("%s: %d", what, e)
		}
		for i := range first {
			for k := range first[i].Kids {
				first[i].Kids[k] = -7
			}
			if more := first[i].Kids[len(first[i].Kids):cap(first[i].Kids)]; slices.Contains(more, math.MinInt) {
				t.Errorf("%s: what lies behind the kids of %d is handed out", what, i)
			}
			_ = append(first[i].Kids, -8)
			first[i] = parse.Node{Kind: -9}
		}
		_ = append(first, parse.Node{Kind: -9})
		if third, _ := call(); !same(third, second) || !same(part, kept) {
			t.Errorf("%s: what is answered is shared", what)
		}
	}
	for i := range long {
		if k := long[i].Kids; k[:len(k)+1][len(k)] != math.MinInt || i >= len(kept) && long[i].Kind != parse.Kinds {
			t.Errorf("what lies behind %d is another one", i)
		}
	}
}

// board is a sheet's cells by what was written on them; a cut of the board moves what is written, one cell by one.
type board map[addr.Cell]addr.Cell

func newBoard() board {
	b := board{}
	for row := range 1024 {
		for col := range 64 {
			b[addr.Cell{Col: col, Row: row}] = addr.Cell{Col: col, Row: row}
		}
	}
	return b
}

// cut is the board behind a cut.
func (b board) cut(c move.Cut) board {
	most := 1024
	if c.Cols {
		most = 64
	}
	then := board{}
	for place, n := range strip(c, most) {
		if n < 0 || place >= most {
			continue
		}
		other := 64
		if c.Cols {
			other = 1024
		}
		for k := range other {
			then[cell(c, place, k)] = b[cell(c, n, k)]
		}
	}
	return then
}

// TestNamesTheSame holds P8.5, first part: what a formula names has what it had, and is no more only if that is no more.
func TestNamesTheSame(t *testing.T) {
	b := newBoard()
	for _, c := range []move.Cut{rows(0, 1), rows(1, 2), rows(500, 500), gone(rows(0, 1)), gone(rows(1, 2)), gone(rows(500, 500)), cols(0, 1), cols(1, 2), cols(30, 30), gone(cols(0, 1)), gone(cols(1, 2)), gone(cols(30, 30))} {
		then := b.cut(c)
		left := map[addr.Cell]bool{}
		for _, was := range then {
			left[was] = true
		}
		for row := 0; row < 1024; row += 7 {
			for col := range 64 {
				x := addr.Cell{Col: col, Row: row}
				got, e := c.Formula(parse.Tree{{Kind: parse.Ref, Ref: addr.Full{From: addr.Ref{Cell: x}}}}, "S")
				if e != api.OK || len(got) != 1 {
					t.Fatalf("%+v: %s: %d", c, x.Text(), e)
				}
				if !left[x] && !alike(got[0], lost()) {
					t.Fatalf("%+v: %s is no more, but is named %s", c, x.Text(), show.Formula(got))
				}
				if was, ok := then[got[0].Ref.From.Cell]; left[x] && (got[0].Kind != parse.Ref || !ok || was != x) {
					t.Fatalf("%+v: %s is named %s, which is %s", c, x.Text(), show.Formula(got), was.Text())
				}
			}
		}
	}
}

// beyond: does something that a reference has stand beyond the last row (column) behind a coming cut, or is it too much between?
func beyond(c move.Cut, f addr.Full) bool {
	a := f.Area()
	n, most, others := a.To.Row, 1024, a.To.Col-a.From.Col+1
	first := a.From.Row
	if c.Cols {
		n, most, others, first = a.To.Col, 64, a.To.Row-a.From.Row+1, a.From.Col
	}
	if n < c.At {
		return false
	}
	if n+c.N >= most {
		return true
	}
	return first < c.At && (n-first+1+c.N)*others > 4096
}

// TestCameAndWent holds P8.5, second part.
func TestCameAndWent(t *testing.T) {
	all := refs(t)
	for _, place := range []string{"A5:C700", "B2:BK60", "A2:A1000", "AA100:AB200"} {
		f, _ := addr.Parse(place)
		all = append(all, f)
	}
	for _, c := range []move.Cut{rows(0, 1), rows(1, 1), rows(1, 3), rows(2, 300), rows(1000, 24), rows(1022, 1), rows(0, 1024), cols(0, 1), cols(1, 1), cols(1, 3), cols(2, 30), cols(60, 4), cols(0, 64)} {
		stays := 0
		for _, f := range all {
			if beyond(c, f) {
				continue
			}
			stays++
			tree := parse.Tree{{Kind: parse.Ref, Ref: f}}
			came, e := c.Formula(tree, "S")
			if e != api.OK {
				t.Fatalf("%+v: %s: %d", c, f.Text(), e)
			}
			went, e := gone(c).Formula(came, "S")
			if e != api.OK || !same(went, tree) {
				t.Errorf("%+v: %s becomes %s, and then %s, %d", c, f.Text(), show.Formula(came), show.Formula(went), e)
			}
		}
		if c.N < 64 && stays < 100 {
			t.Errorf("%+v: only %d stay", c, stays)
		}
	}
}

// FuzzFormula holds P8.1, P8.2 and P8.5 at any cut of any formula.
func FuzzFormula(f *testing.F) {
	f.Add("A1+A2+SUM(A2:A4)", "S", "S", false, 1, 2, true)
	f.Add(sorts, "T", "S", true, 1, 1, false)
	f.Add("A1:BL64", "S", "S", false, 0, 1024, false)
	f.Add("1+", "1", "", false, math.MaxInt, math.MaxInt, false)
	f.Fuzz(func(t *testing.T, s, home, sheet string, byCols bool, at, n int, goes bool) {
		c := move.Cut{Sheet: sheet, Cols: byCols, At: at, N: n, Gone: goes}
		tree, e := parse.Parse(s)
		if e != api.OK || !c.Good() || !addr.Name(home) {
			want := api.ErrArg
			if e != api.OK {
				want = api.ErrForm
			}
			if got, e := c.Formula(tree, home); len(got) > 0 || e != want {
				t.Errorf("%+v: %q on %q: %d nodes, %d", c, s, home, len(got), e)
			}
			return
		}
		asked(t, c, tree, home)
		most := 1024
		if byCols {
			most = 64
		}
		all := strip(c, most)
		holdCells(t, c, most, 0)
		for _, f := range tree.Refs() {
			a := f.Area()
			if byCols {
				holdArea(t, c, all, most, a.From.Col, a.To.Col, a.From.Row, a.To.Row)
			} else {
				holdArea(t, c, all, most, a.From.Row, a.To.Row, a.From.Col, a.To.Col)
			}
		}
	})
}
