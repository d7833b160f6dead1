package move_test

import (
	"math"
	"strings"
	"testing"

	"lattice/addr"
	"lattice/api"
	"lattice/move"
	"lattice/parse"
	"lattice/show"
)

// copyTo holds what a formula is so many columns and rows farther.
func copyTo(t *testing.T, s string, cols, rows int, want string) {
	t.Helper()
	tree := treeOf(t, s)
	kept := copied(tree)
	got, e := move.Copy(tree, cols, rows)
	if e != api.OK || !same(got, treeOf(t, want)) {
		t.Errorf("Copy(%s, %d, %d): %s, %d; want %s", s, cols, rows, show.Formula(got), e, want)
	}
	if !same(tree, kept) {
		t.Errorf("%s is changed itself", s)
	}
}

// TestCopy holds P8.3 of formulas written out.
func TestCopy(t *testing.T) {
	for _, x := range []struct {
		s          string
		cols, rows int
		want       string
	}{
		{"A1", 0, 0, "A1"}, {"A1", 1, 0, "B1"}, {"A1", 0, 1, "A2"}, {"C5", -2, -4, "A1"}, {"$A1", 1, 2, "$A3"}, {"A$1", 1, 2, "B$1"}, {"$A$1", 1, 2, "$A$1"},
		{"A1", 63, 1023, "BL1024"}, {"BL1024", -63, -1023, "A1"}, {"A1", 64, 0, "#REF!"}, {"A1", 0, 1024, "#REF!"}, {"A1", -1, 0, "#REF!"}, {"A1", 0, -1, "#REF!"}, {"B2", -2, 0, "#REF!"}, {"BL1", 1, 0, "#REF!"}, {"A1024", 0, 1, "#REF!"},
		{"$A1", 64, 1, "$A2"}, {"$A1", -1, 1, "$A2"}, {"A$1", 1, 1024, "B$1"}, {"A$1", 1, -1, "B$1"}, {"$A$1", 64, 1024, "$A$1"}, {"$A1", 0, -1, "#REF!"}, {"A$1", -1, 0, "#REF!"},
		{"A1:B2", 1, 1, "B2:C3"}, {"A1:A1", 2, 2, "C3:C3"}, {"A1:BL64", 0, 960, "A961:BL1024"}, {"A1:BL64", 0, 961, "#REF!"}, {"A1:BL64", 1, 0, "#REF!"}, {"A1:BL64", 0, 0, "A1:BL64"}, {"A1:B2", -1, 0, "#REF!"}, {"A1:B2", 0, -1, "#REF!"}, {"BK1:BL2", 1, 0, "#REF!"}, {"A1023:A1024", 0, 1, "#REF!"},
		{"$A1:B2", -1, 0, "$A1:A2"}, {"A1:$B2", 1, 0, "B1:$B2"}, {"A1:$B2", 3, 0, "$B1:D2"}, {"$B1:C2", -2, 0, "A1:$B2"}, {"$A1:$B2", 9, 0, "$A1:$B2"}, {"A$1:B2", 0, -1, "A$1:B1"}, {"A1:B$2", 0, 1, "A2:B$2"}, {"A1:B$2", 0, 3, "A$2:B4"}, {"A$2:B3", 0, -2, "A1:B$2"}, {"A$1:B$2", 0, 9, "A$1:B$2"},
		{"$A1:B$2", 3, 3, "$A$2:E4"}, {"A1:$B$2", 3, 3, "$B$2:D4"}, {"$B$2:C3", -2, -2, "A1:$B$2"}, {"A$1:$B2", 3, 3, "$B$1:D5"}, {"$B$2:$C$3", -9, 9, "$B$2:$C$3"}, {"A1:$B2", -1, 0, "#REF!"},
		{"A1:BL$1", 0, 63, "A$1:BL64"}, {"A1:BL$1", 0, 64, "#REF!"}, {"A$1:BL1", 0, 63, "A$1:BL64"}, {"A$1:BL1", 0, 64, "#REF!"}, {"$A1:D1024", 1, 0, "#REF!"}, {"$A1:C1024", 1, 0, "$A1:D1024"},
		{"S!A1", 1, 1, "S!B2"}, {"[B]S!A1:$B2", 3, 0, "[B]S!$B1:D2"}, {"[B]S!A1", -1, 0, "#REF!"}, {"S!A1", 0, 1024, "#REF!"},
		{"1", 1, 1, "1"}, {`"A1"`, 1, 1, `"A1"`}, {"x", 1, 1, "x"}, {"A1()", 1, 1, "A1()"}, {"-A1%^F(A1,G(B1))", 0, 1, "-A2%^F(A2,G(B2))"}, {"A1+B2", -1, 0, "#REF!+A2"},
		{sorts, 1, 2, `-F(B3,"A1",1.5%)^(TRUE&#N/A)<=G()-S!$B4+[B]S!B$2:$C6*SUM(T!B4,x,#REF!)`},
	} {
		copyTo(t, x.s, x.cols, x.rows, x.want)
	}
}

// TestCopyFar holds P8.3 at odd numbers of columns and rows: what is fixed minds none, and no sum comes round to a cell.
func TestCopyFar(t *testing.T) {
	for _, n := range odd() {
		for _, m := range odd() {
			copyTo(t, "$A$1+$B$2:$C$3", n, m, "$A$1+$B$2:$C$3")
			if far := n < -63 || n > 63; far {
				copyTo(t, "A1+BL$1024+A$1:BL$9+$B$2:C$9+B$2:$C$9", n, m, "#REF!+#REF!+#REF!+#REF!+#REF!")
			}
			if far := m < -1023 || m > 1023; far {
				copyTo(t, "A1+$BL1024+$A1:$BL9+$B$2:$C9+$B2:$C$9", n, m, "#REF!+#REF!+#REF!+#REF!+#REF!")
			}
		}
	}
}

// farther is a reference as layer 4 reads it once each of its cells is written farther; the empty text, if it can't be.
func farther(f addr.Full, cols, rows int) string {
	corner := func(r addr.Ref) (string, bool) {
		if !r.FixCol {
			r.Col += cols
		}
		if !r.FixRow {
			r.Row += rows
		}
		return r.Text(), r.Good()
	}
	s, ok := corner(f.From)
	if !ok {
		return ""
	}
	if f.Wide {
		to, ok := corner(f.To)
		if !ok {
			return ""
		}
		s += ":" + to
	}
	if f.Sheet != "" {
		s = f.Sheet + "!" + s
	}
	if f.Book != "" {
		s = "[" + f.Book + "]" + s
	}
	read, e := addr.Parse(s)
	if e != api.OK {
		return ""
	}
	return read.Text()
}

// TestCopyRefs holds P8.3 of references of every sort, with what layer 4 says of corners.
func TestCopyRefs(t *testing.T) {
	trees := heaps(refs(t))
	for _, cols := range []int{0, 1, -1, 2, -2, 3, 31, -62, 62, 63, -63, 64, -64} {
		for _, rows := range []int{0, 1, -1, 2, -2, 3, 63, 64, -64, 960, -960, 1022, -1022, 1023, -1023, 1024, -1024} {
			for _, tree := range trees {
				got, e := move.Copy(tree, cols, rows)
				become(t, "copy", tree, got, e, func(f addr.Full) string { return farther(f, cols, rows) })
			}
		}
	}
}

// renamed holds what a formula is with another name of a sheet.
func renamed(t *testing.T, s, book, from, to, want string) {
	t.Helper()
	tree := treeOf(t, s)
	kept := copied(tree)
	got, e := move.Rename(tree, book, from, to)
	if e != api.OK || !same(got, treeOf(t, want)) {
		t.Errorf("Rename(%s, %q, %q, %q): %s, %d; want %s", s, book, from, to, show.Formula(got), e, want)
	}
	if !same(tree, kept) {
		t.Errorf("%s is changed itself", s)
	}
}

// TestRename holds P8.4.
func TestRename(t *testing.T) {
	const all = "A1+S!A1+s!A1+T!A1+[B]S!A1+[b]S!A1+[B]T!A1+[S]S!$A1:B$2+S!$A$1:B2"
	renamed(t, all, "", "S", "New", "A1+New!A1+s!A1+T!A1+[B]S!A1+[b]S!A1+[B]T!A1+[S]S!$A1:B$2+New!$A$1:B2")
	renamed(t, all, "B", "S", "New", "A1+S!A1+s!A1+T!A1+[B]New!A1+[b]S!A1+[B]T!A1+[S]S!$A1:B$2+S!$A$1:B2")
	renamed(t, all, "S", "S", "T", "A1+S!A1+s!A1+T!A1+[B]S!A1+[b]S!A1+[B]T!A1+[S]T!$A1:B$2+S!$A$1:B2")
	renamed(t, all, "", "T", "S", "A1+S!A1+s!A1+S!A1+[B]S!A1+[b]S!A1+[B]T!A1+[S]S!$A1:B$2+S!$A$1:B2")
	renamed(t, all, "", "s", "s2", "A1+S!A1+s2!A1+T!A1+[B]S!A1+[b]S!A1+[B]T!A1+[S]S!$A1:B$2+S!$A$1:B2")
	for _, x := range [][3]string{{"", "S", "S"}, {"", "B", "New"}, {"", "A1", "New"}, {"B", "s", "New"}, {"C", "S", "New"}, {"T", "T", "New"}} {
		renamed(t, all, x[0], x[1], x[2], all)
	}
	renamed(t, `S()+"S!A1"&S+S!A1`, "", "S", "T", `S()+"S!A1"&S+T!A1`)
	renamed(t, "-S!A1%+F(S!B2,1,G(S!A1:B2))", "", "S", "ABCDEFGHIJKLMNOP", "-ABCDEFGHIJKLMNOP!A1%+F(ABCDEFGHIJKLMNOP!B2,1,G(ABCDEFGHIJKLMNOP!A1:B2))")
	renamed(t, "_!A1", "", "_", "A1", "A1!A1")
	renamed(t, "[ABCDEFGHIJKLMNOP]S!A1", "ABCDEFGHIJKLMNOP", "S", "_", "[ABCDEFGHIJKLMNOP]_!A1")
	renamed(t, sorts, "B", "S", "T", strings.Replace(sorts, "[B]S", "[B]T", 1))
}

// TestRenameRefs holds P8.4 of references of every sort.
func TestRenameRefs(t *testing.T) {
	for _, tree := range heaps(refs(t)) {
		for _, book := range []string{"", "B", "S", "Z"} {
			for _, from := range []string{"S", "T", "Z"} {
				got, e := move.Rename(tree, book, from, "Q")
				become(t, "rename", tree, got, e, func(f addr.Full) string {
					if f.Book == book && f.Sheet == from {
						f.Sheet = "Q"
					}
					return f.Text()
				})
			}
		}
	}
}

// TestRenameErrors holds ErrArg of P8.4.
func TestRenameErrors(t *testing.T) {
	none := []string{"1", "1S", "a b", " S", "S ", "S!", "[B]", "$S", "é", "\x00", "ABCDEFGHIJKLMNOPQ", strings.Repeat("S", 1<<16)}
	hold := func(tree parse.Tree, book, from, to string) {
		t.Helper()
		if got, e := move.Rename(tree, book, from, to); len(got) > 0 || e != api.ErrArg {
			t.Errorf("Rename(.., %.20q, %.20q, %.20q): %d nodes, %d", book, from, to, len(got), e)
		}
	}
	for _, s := range []string{"1", "A1", "S!A1", sorts} {
		tree := treeOf(t, s)
		for _, x := range none {
			hold(tree, x, "S", "T")
			hold(tree, x, x, x)
		}
		for _, x := range append(none, "") {
			hold(tree, "", x, "T")
			hold(tree, "B", x, "T")
			hold(tree, "", "S", x)
			hold(tree, "B", "S", x)
		}
	}
}

// FuzzCopy holds P8.3 at any formula.
func FuzzCopy(f *testing.F) {
	f.Add("A1+$A1+A$1+$A$1", 1, 2)
	f.Add(sorts, -1, 0)
	f.Add("SUM(A1:$B2)", 3, 1023)
	f.Add("A1:BL$1", math.MinInt, math.MaxInt)
	f.Fuzz(func(t *testing.T, s string, cols, rows int) {
		tree, e := parse.Parse(s)
		got, told := move.Copy(tree, cols, rows)
		if e != api.OK {
			if len(got) > 0 || told != api.ErrForm {
				t.Errorf("%q: %d nodes, %d", s, len(got), told)
			}
			return
		}
		become(t, "copy", tree, got, told, func(f addr.Full) string { return farther(f, cols, rows) })
	})
}
