package show_test

import (
	"slices"
	"strings"
	"testing"

	"lattice/addr"
	"lattice/api"
	"lattice/parse"
	"lattice/show"
	"lattice/value"
)

// same: are two trees of the same nodes? (A list without elements may be nil or not.)
func same(a, b parse.Tree) bool {
	return slices.EqualFunc(a, b, func(x, y parse.Node) bool {
		return x.Kind == y.Kind && x.Op == y.Op && x.Value == y.Value && x.Ref == y.Ref && slices.Equal(x.Kids, y.Kids)
	})
}

// back holds P7.4: what is shown of a good tree is parsed to it, if it is neither too long nor, by the document's other words, too deep.
func back(t *testing.T, tree parse.Tree) {
	t.Helper()
	for _, s := range []string{show.Formula(tree), show.Full(tree)} {
		got, e := parse.Parse(s)
		switch {
		case s == "":
			t.Error("a good tree has no text")
		case len(s) > api.MaxFormula:
			if e != api.ErrLong {
				t.Errorf("%d bytes: %d", len(s), e)
			}
		case e == api.ErrDeep:
			if strings.Count(s, "(")+strings.Count(s, "-") <= api.MaxDepth {
				t.Errorf("%q can't be so deep", s)
			}
		case e != api.OK || !same(got, tree):
			t.Errorf("%q is parsed to %q, %d", s, show.Full(got), e)
		}
	}
}

// tidied holds what Tidy tells of a formula, and that this stays as it is.
func tidied(t *testing.T, s, want string) {
	t.Helper()
	for _, s := range []string{s, want, " " + want + " "} {
		if len(s) > api.MaxFormula {
			continue
		}
		if got, e := show.Tidy(s); got != want || e != api.OK {
			t.Errorf("Tidy(%.200q): %.200q, %d; want %.200q", s, got, e, want)
		}
	}
}

// refused holds that Tidy tells that error, and nothing else.
func refused(t *testing.T, s string, want api.Errno) {
	t.Helper()
	if got, e := show.Tidy(s); got != "" || e != want {
		t.Errorf("Tidy(%.200q): %.200q, %d; want %d", s, got, e, want)
	}
}

// TestTidy holds P7.3 of formulas.
func TestTidy(t *testing.T) {
	for s, want := range map[string]string{
		" 1 + ( 2 * a1 ) ^ -x % ": "1+(2*A1)^-#NAME?%",
		"1":                       "1", "001.500": "1.5", "0.00004": "0", "0.0001": "0.0001", "900000000000000.0": "900000000000000",
		`"a""b"`: `"a""b"`, `" x "`: `" x "`, `"a" & "b"`: `"a"&"b"`,
		"true": "TRUE", "fAlSe": "FALSE", "x": "#NAME?", "True()": "TRUE()", "#N/A": "#N/A",
		"b2": "B2", "$b$2": "$B$2", "$b2:a$1": "A$1:$B2", "B1:A2": "A1:B2", "s!c3": "s!C3", "[b]s!c3:a1": "[b]s!A1:C3",
		"sum( a1:b2 , 3 )": "SUM(A1:B2,3)", "f ( )": "F()", "f((1))": "F(1)", "f((1+2),(-3))": "F(1+2,-3)", "f((g((1))))": "F(G(1))",
		"+1": "1", "+++A1": "A1", "-+-1": "--1", "1++2": "1+2", "1-+2": "1-2", "1+(+2)": "1+2", "+(1+2)": "1+2", "+1%": "1%", "(+1)%": "1%", "1^+2": "1^2", "f(+1)": "F(1)", "+(1+2)*3": "(1+2)*3", "-(+(1+2))": "-(1+2)", "+(-1)": "-1", "+(-1)%": "(-1)%",
		"((1))": "1", "(1+2)": "1+2", "((1+2))+3": "1+2+3", "1+((2+3))": "1+(2+3)", "(1*2)+(3*4)": "1*2+3*4", "(1+2)*(3+4)": "(1+2)*(3+4)", "(1-2)-(3-4)": "1-2-(3-4)", "(1&2)&(3&4)": "1&2&(3&4)", "(1=2)=(3=4)": "1=2=(3=4)", "(1/2)/(3/4)": "1/2/(3/4)", "(1^2)^(3^4)": "1^2^(3^4)",
		"(-1)": "-1", "-(1)": "-1", "-(-(1))": "--1", "(-1)^2": "-1^2", "-(1^2)": "-(1^2)", "1-(-2)": "1--2", "(1%)^(2%)": "1%^2%", "-(1%)": "-1%", "(-1)%": "(-1)%", "(1%)%": "1%%", "1 <= 2": "1<=2", "1 <> (2)": "1<>2", "(1<(2&3))": "1<2&3",
	} {
		tidied(t, s, want)
	}
	tidied(t, within(30, "(", "f(+1)", ")"), "F(1)")
	tidied(t, strings.Repeat(" ", 511)+"1", "1")
	tidied(t, within(32, "+", "1", ""), "1")
	tidied(t, within(32, "-", "1", ""), within(32, "-", "1", ""))
}

// TestTidyErrors holds P7.3's first error: Parse's.
func TestTidyErrors(t *testing.T) {
	for s, want := range map[string]api.Errno{
		"": api.ErrForm, " ": api.ErrForm, "1+": api.ErrForm, "(1": api.ErrForm, "1 2": api.ErrForm, "f(1,)": api.ErrForm, "@": api.ErrForm, `"a`: api.ErrForm, "=1": api.ErrForm, "1=": api.ErrForm, "x y": api.ErrForm, "#N": api.ErrForm, "#n/a": api.ErrForm, "1 < = 2": api.ErrForm, ".5": api.ErrForm,
		"BM1": api.ErrRange, "a1025": api.ErrRange, "x+BM1": api.ErrRange,
		"A1:BL65": api.ErrLong, `"` + strings.Repeat("x", 256) + `"`: api.ErrLong, strings.Repeat(" ", 512) + "1": api.ErrLong, strings.Repeat("\xff", 1<<16): api.ErrLong, "f(" + strings.Repeat("1,", 32) + "1)": api.ErrLong,
		"9999999999999999":        api.ErrNum,
		within(33, "(", "1", ")"): api.ErrDeep, within(33, "-", "1", ""): api.ErrDeep, within(33, "+", "1", ""): api.ErrDeep, within(33, "f(", "1", ")"): api.ErrDeep,
		strings.Repeat("1+", 128) + "1": api.ErrFull, strings.Repeat("x&", 200) + "x": api.ErrFull, // ahead of what is shown being too long
	} {
		refused(t, s, want)
	}
}

// TestTidyLong holds P7.3's ErrLong: what is shown may be longer than what was given.
func TestTidyLong(t *testing.T) {
	for _, x := range []struct{ given, shown string }{
		{strings.Repeat("x&", 73) + "1", strings.Repeat("#NAME?&", 73) + "1"}, // 512 bytes are shown
		{strings.Repeat("x&", 72) + "x", strings.Repeat("#NAME?&", 72) + "#NAME?"},
		{strings.Repeat("x&", 73) + "(+1.0)", strings.Repeat("#NAME?&", 73) + "1"},
		{strings.Repeat("nothing&", 63) + "1", strings.Repeat("#NAME?&", 63) + "1"},
	} {
		tidied(t, x.given, x.shown)
	}
	for _, s := range []string{
		strings.Repeat("x&", 73) + "11", // 513
		strings.Repeat("x&", 73) + "-1", strings.Repeat("x&", 73) + "1%", strings.Repeat("x&", 73) + "x", strings.Repeat("x&", 74) + "1", strings.Repeat("x&", 127) + "x", "f(" + strings.Repeat("x&", 73) + "1)",
	} {
		if u, e := parse.Parse(s); e != api.OK || len(show.Formula(u)) <= 512 {
			t.Errorf("%q: %d, %d bytes are shown", s, e, len(show.Formula(u)))
		}
		refused(t, s, api.ErrLong)
	}
}

// TestBackLong holds P7.4 at MaxFormula: what is shown of a tree that is made by hand.
func TestBackLong(t *testing.T) {
	for _, n := range []int{252, 253, 254, 255} {
		tree := parse.Tree{text(strings.Repeat("x", 255)), text(strings.Repeat("y", n)), bin("&", 0, 1)}
		s := show.Formula(tree)
		if len(s) != 260+n {
			t.Errorf("%d bytes; want %d", len(s), 260+n)
		}
		got, e := parse.Parse(s)
		if n <= 252 && (e != api.OK || !same(got, tree)) || n > 252 && e != api.ErrLong {
			t.Errorf("%d bytes: %d", len(s), e)
		}
		back(t, tree)
	}
}

// leaves are the nodes without kids of which smallTrees makes trees.
func leaves() []parse.Node {
	return []parse.Node{num(10000), full(addr.Full{Sheet: "S", From: ref(0, 0), To: ref(1, 1), Wide: true}), text(`"`), fail(value.Name), truth(true), call("F")}
}

// smallTrees are all trees of so many nodes, of the sorts of nodes that may differ.
func smallTrees(size int, leaves []parse.Node, ops []string) []parse.Tree {
	all := [][]parse.Tree{nil, nil}
	for _, n := range leaves {
		all[1] = append(all[1], parse.Tree{n})
	}
	for n := 2; n <= size; n++ {
		var made []parse.Tree
		for _, u := range all[n-1] {
			top := len(u) - 1
			made = append(made, append(slices.Clone(u), neg(top)), append(slices.Clone(u), pct(top)), append(slices.Clone(u), call("G", top)))
		}
		for k := 1; k < n-1; k++ {
			for _, u := range all[k] {
				for _, v := range all[n-1-k] {
					both := slices.Clone(u)
					for _, node := range v {
						node.Kids = slices.Clone(node.Kids)
						for i := range node.Kids {
							node.Kids[i] += k
						}
						both = append(both, node)
					}
					made = append(made, append(slices.Clone(both), call("H", k-1, n-2)))
					for _, op := range ops {
						made = append(made, append(slices.Clone(both), bin(op, k-1, n-2)))
					}
				}
			}
		}
		all = append(all, made)
	}
	return slices.Concat(all...)
}

// operands is how many operands of a tree bind less than plain ones.
func operands(tree parse.Tree) int {
	n := 0
	for _, node := range tree {
		if node.Kind == parse.Call {
			continue
		}
		for _, kid := range node.Kids {
			if k := tree[kid].Kind; k == parse.Neg || k == parse.Pct || k == parse.Bin {
				n++
			}
		}
	}
	return n
}

// pairs are the places of the parentheses of a formula without texts, but for those of arguments.
func pairs(s string) [][2]int {
	var all [][2]int
	var open []int
	for i := range len(s) {
		switch s[i] {
		case '(':
			open = append(open, i)
		case ')':
			from := open[len(open)-1]
			open = open[:len(open)-1]
			if from == 0 || !strings.Contains("FGH", s[from-1:from]) {
				all = append(all, [2]int{from, i})
			}
		}
	}
	return all
}

// TestSmallTrees holds P7.4 at all small trees; with P7.1, that no parentheses of Formula could be left away, and with P7.2, how many Full has.
func TestSmallTrees(t *testing.T) {
	var every []string
	for _, line := range lines() {
		every = append(every, line...)
	}
	trees := smallTrees(3, leaves(), every)
	trees = append(trees, smallTrees(5, []parse.Node{cell(0, 0)}, every)...)
	trees = append(trees, smallTrees(6, []parse.Node{cell(0, 0)}, []string{"<=", "&", "-", "/", "^"})...)
	trees = append(trees, smallTrees(7, []parse.Node{cell(0, 0)}, []string{"-", "*"})...)
	for _, tree := range trees {
		back(t, tree)
		s, wholly := show.Formula(tree), show.Full(tree)
		for _, p := range pairs(s) {
			less := s[:p[0]] + s[p[0]+1:p[1]] + s[p[1]+1:]
			if u, e := parse.Parse(less); e == api.OK && same(u, tree) {
				t.Errorf("%q is %q, too", s, less)
			}
		}
		if n := len(pairs(wholly)); n != operands(tree) {
			t.Errorf("%q has %d parentheses; want %d", wholly, n, operands(tree))
		}
		for _, blank := range []string{" ", "\t", "\n"} {
			if strings.Contains(s+wholly, blank) {
				t.Errorf("%q, %q have blanks", s, wholly)
			}
		}
		if tidy, e := show.Tidy(wholly); tidy != s || e != api.OK {
			t.Errorf("Tidy(%q): %q, %d; want %q", wholly, tidy, e, s)
		}
		if t.Failed() {
			return
		}
	}
}

// holdTidy holds P7.3 and P7.4 at a text.
func holdTidy(t *testing.T, s string) {
	t.Helper()
	tree, e := parse.Parse(s)
	tidy, got := show.Tidy(s)
	if e != api.OK {
		if tidy != "" || got != e {
			t.Errorf("Tidy(%q): %q, %d; want %d", s, tidy, got, e)
		}
		return
	}
	back(t, tree)
	want := show.Formula(tree)
	if len(want) > api.MaxFormula {
		if tidy != "" || got != api.ErrLong {
			t.Errorf("Tidy(%q): %q, %d", s, tidy, got)
		}
		return
	}
	if tidy != want || got != api.OK {
		t.Errorf("Tidy(%q): %q, %d; want %q", s, tidy, got, want)
	}
	if u, e := parse.Parse(tidy); !same(u, tree) || e != api.OK { // never deeper than the formula itself
		t.Errorf("%q is parsed to another tree than %q: %d", tidy, s, e)
	}
	if again, e := show.Tidy(tidy); again != tidy || e != api.OK {
		t.Errorf("Tidy(%q): %q, %d", tidy, again, e)
	}
}

// TestShortTexts holds P7.3 and P7.4 at all short texts of the signs that matter.
func TestShortTexts(t *testing.T) {
	texts := []string{""}
	for range 5 {
		var longer []string
		for _, s := range texts {
			for _, sign := range strings.Fields(`1 a1 f ( ) , - + % = "`) {
				holdTidy(t, s+sign)
				longer = append(longer, s+sign)
			}
		}
		texts = longer
	}
}

// TestDeepTidy holds P7.4 of formulas as deep as may be: what is tidy of them is no deeper.
func TestDeepTidy(t *testing.T) {
	for _, x := range []struct{ open, closing string }{{"(", ")"}, {"-", ""}, {"+", ""}, {"f(", ")"}, {"f(1,", ",2)"}, {"(1-", ")"}, {"(1^", ")"}, {"(1*(", ")-2)"}, {"(", "%)"}, {"(-", ")%"}, {"-(1+", ")"}, {"(f(-", ")%)"}, {"(1&", "=2)"}} {
		for n := range 34 {
			for _, inner := range []string{"1", "A1%", "f()", "-1", "x+2"} {
				holdTidy(t, within(n, x.open, inner, x.closing))
				holdTidy(t, "2^"+within(n, x.open, inner, x.closing)+"%-1")
			}
		}
	}
}

// FuzzTidy holds P7.3 and P7.4 at any text.
func FuzzTidy(f *testing.F) {
	for _, s := range []string{"", "1+(2*a1)^-x%", "f(A1,-g(A1:B2),A1,f(S!A1))", "(-2)^2%", "(1<2)=(3&4)", "f(1,)", within(33, "(1-", "1", ")"), strings.Repeat("x&", 73) + "11", `"a""b"&TRUE`} {
		f.Add(s)
	}
	f.Fuzz(holdTidy)
}

// grown is a tree that bytes tell: mostly a good one.
func grown(b []byte) parse.Tree {
	var tree parse.Tree
	var free []int
	ops := slices.Concat(lines()...)
	put := func(n parse.Node, kids int) {
		from := max(0, len(free)-kids)
		n.Kids = slices.Clone(free[from:])
		free = append(free[:from], len(tree))
		tree = append(tree, n)
	}
	for i := 0; i+1 < len(b); i += 2 {
		switch what := int(b[i+1]); b[i] % 6 {
		case 0:
			put(leaves()[what%len(leaves())], 0)
		case 1:
			put(cell(what%64, what), 0)
		case 2:
			put(parse.Node{Kind: parse.Neg}, 1)
		case 3:
			put(parse.Node{Kind: parse.Pct}, 1)
		case 4:
			put(parse.Node{Kind: parse.Bin, Op: ops[what%len(ops)]}, 2)
		case 5:
			put(parse.Node{Kind: parse.Call, Op: "G"}, what%4)
		}
	}
	for len(free) > 1 {
		put(parse.Node{Kind: parse.Bin, Op: ops[len(tree)%len(ops)]}, 2)
	}
	return tree
}

// FuzzTree holds P7.1, P7.2 and P7.4 at any tree.
func FuzzTree(f *testing.F) {
	for _, b := range []string{"", "\x00\x00", "\x00\x00\x02\x00\x03\x00", "\x01\x00\x01\x01\x04\x00", strings.Repeat("\x00\x02", 100), strings.Repeat("\x05\x01", 40), strings.Repeat("\x01\x02\x02\x02", 70)} {
		f.Add([]byte(b))
	}
	f.Fuzz(func(t *testing.T, b []byte) {
		tree := grown(b)
		if tree.Good() {
			back(t, tree)
		} else if show.Formula(tree) != "" || show.Full(tree) != "" {
			t.Errorf("a tree that isn't good: %q, %q", show.Formula(tree), show.Full(tree))
		}
	})
}
