package parse_test

import (
	"math"
	"slices"
	"strings"
	"testing"

	"lattice/addr"
	"lattice/parse"
	"lattice/value"
)

// good holds P6.2, and that P6.3's calls tell nothing of what isn't good for another reason than its nesting.
func good(t *testing.T, want bool, tree ...parse.Node) {
	t.Helper()
	u := parse.Tree(tree)
	if u.Good() != want {
		t.Errorf("Good of %.300s: %t; want %t", drawn(u), !want, want)
	}
	if !want && (len(u.Refs()) != 0 || len(u.Calls()) != 0 || u.Nesting() != 0) {
		t.Errorf("%.300s isn't good, and tells %v, %v, %d", drawn(u), u.Refs(), u.Calls(), u.Nesting())
	}
}

// TestGoodLiterals holds P6.2 of literals.
func TestGoodLiterals(t *testing.T) {
	for _, n := range []parse.Node{num(0), num(1), num(9000000000000000000), text(""), text("x\x00\xff"), text(strings.Repeat("x", 255)), truth(true), truth(false), fail(value.Div0), fail(value.Cycle), fail(value.Link)} {
		good(t, true, n)
		good(t, true, n, n, bin("+", 0, 1))
	}
	for _, n := range []parse.Node{
		{}, num(-1), num(-10000), num(-9000000000000000000), num(9000000000000000001), num(math.MaxInt64), num(math.MinInt64), text(strings.Repeat("x", 256)), fail(value.None), fail(value.Fails), fail(-1), lit(value.Value{Kind: value.Kinds}), lit(value.Value{Kind: -1}), lit(value.Value{Kind: math.MinInt}),
		lit(value.Value{Text: "x"}), lit(value.Value{Kind: value.Number, Text: "x"}), lit(value.Value{Kind: value.Text, Num: 1}), lit(value.Value{Kind: value.Text, Num: -1}), lit(value.Value{Kind: value.Bool, Fail: value.Ref}), lit(value.Value{Kind: value.Error, Fail: value.Ref, True: true}),
	} {
		good(t, false, n)
		good(t, false, n, num(0), bin("+", 0, 1))
		good(t, false, num(0), n, call("F", 0, 1))
	}
}

// TestGoodRefs holds P6.2 of references.
func TestGoodRefs(t *testing.T) {
	for _, f := range []addr.Full{{}, {From: ref(63, 1023)}, {Sheet: "S"}, {Book: "B", Sheet: "s"}, {To: ref(63, 63), Wide: true}, {From: addr.Ref{FixCol: true, FixRow: true}}} {
		good(t, true, full(f))
		good(t, true, full(f), neg(0))
	}
	for _, f := range []addr.Full{{From: ref(64, 0)}, {From: ref(0, 1024)}, {From: ref(-1, 0)}, {Book: "B"}, {Sheet: "1"}, {Sheet: "S", Book: "B C"}, {To: ref(1, 1)}, {To: ref(63, 64), Wide: true}, {From: ref(1, 0), To: ref(0, 0), Wide: true}} {
		good(t, false, full(f))
		good(t, false, full(f), neg(0))
	}
}

// TestGoodOps holds P6.2 of operators, and of what is called.
func TestGoodOps(t *testing.T) {
	for _, op := range strings.Fields("= <> < <= > >= & + - * / ^") {
		good(t, true, num(0), num(0), bin(op, 0, 1))
		good(t, false, num(0), num(0), call(op, 0, 1))
	}
	for _, op := range []string{"", "%", "==", "=>", "><", "=<", "++", "**", "(", ")", ",", "!", ":", " ", "+ ", " +", "A", "\x00", "\xff", "<=>"} {
		good(t, false, num(0), num(0), bin(op, 0, 1))
	}
	for _, op := range []string{"F", "SUM", "TRUE", "A1", "LOG10", "_", "_1", "A_B", "ABCDEFGHIJKLMNOP", "ZZZ99999"} {
		good(t, true, call(op))
		good(t, true, num(0), call(op, 0))
		good(t, false, num(0), num(0), bin(op, 0, 1))
	}
	for _, op := range []string{"", "f", "Sum", "sUM", "SUm", "_a", "1", "1A", "A B", " A", "A ", "A!", "A1:B2", "$A", "S!A", "Ä", "ABCDEFGHIJKLMNOPQ", "ABCDEFGHIJKLMNOp", "\x00", "F\x00", strings.Repeat("A", 1<<16)} {
		good(t, false, call(op))
		good(t, false, num(0), call(op, 0))
	}
}

// TestGoodFields holds P6.2: a node has the fields of its kind alone, and as many kids.
func TestGoodFields(t *testing.T) {
	whole := map[parse.Kind][]parse.Node{
		parse.Lit: {num(1)}, parse.Ref: {cell(1, 1)}, parse.Neg: {num(1), neg(0)}, parse.Pct: {num(1), pct(0)}, parse.Bin: {num(1), num(2), bin("*", 0, 1)}, parse.Call: {num(1), call("F", 0)},
	}
	for kind, tree := range whole {
		good(t, true, tree...)
		last := len(tree) - 1
		changed := func(change func(*parse.Node)) parse.Tree {
			u := slices.Clone(tree)
			change(&u[last])
			return u
		}
		for _, op := range []string{"F", "+", "-", "%", " "} {
			mayHave := kind == parse.Call && op == "F" || kind == parse.Bin && (op == "+" || op == "-")
			good(t, mayHave, changed(func(n *parse.Node) { n.Op = op })...)
		}
		for _, v := range []value.Value{value.N(10000), value.N(0), value.T(""), value.T("x"), value.B(false), value.E(value.Ref), {Text: "x"}, {Num: 1}, {True: true}, {Fail: value.Ref}} {
			good(t, kind == parse.Lit && v.Kind != value.Blank, changed(func(n *parse.Node) { n.Value = v })...)
		}
		for _, f := range []addr.Full{{Sheet: "S"}, {From: ref(0, 1)}, {Wide: true}, {From: addr.Ref{FixRow: true}}} {
			good(t, kind == parse.Ref, changed(func(n *parse.Node) { n.Ref = f })...)
		}
		for _, kids := range [][]int{nil, {}, {0}, {0, 1}, {1, 0}, {0, 0}, {0, 1, 2}, {-1}, {last}, {last + 1}, {math.MinInt}, {math.MaxInt}, {0, math.MaxInt}} {
			u := changed(func(n *parse.Node) { n.Kids = kids })
			mayHave := slices.Equal(kids, tree[last].Kids)
			good(t, mayHave, u...)
		}
		for _, k := range []parse.Kind{-1, parse.Kinds, parse.Kinds + 1, 9, math.MaxInt, math.MinInt} {
			good(t, false, changed(func(n *parse.Node) { n.Kind = k })...)
		}
		for other := range parse.Kinds { // the fields of one kind are no other's, but Neg's are Pct's
			mayBe := other == kind || min(other, kind) == parse.Neg && max(other, kind) == parse.Pct
			good(t, mayBe, changed(func(n *parse.Node) { n.Kind = other })...)
		}
	}
}

// TestGoodKids holds P6.2 of how many kids there are.
func TestGoodKids(t *testing.T) {
	for kind, counts := range map[parse.Kind][]int{parse.Lit: {0}, parse.Ref: {0}, parse.Neg: {1}, parse.Pct: {1}, parse.Bin: {2}} {
		for n := range 5 {
			top := parse.Node{Kind: kind}
			switch kind {
			case parse.Lit:
				top.Value = value.N(1)
			case parse.Bin:
				top.Op = "+"
			}
			good(t, slices.Contains(counts, n), crowd(n, top)...)
		}
	}
	for _, n := range []int{0, 1, 2, 31, 32} {
		good(t, true, crowd(n, call("F"))...)
	}
	for _, n := range []int{33, 34, 64, 255, 256} {
		good(t, false, crowd(n, call("F"))...)
	}
}

// crowd is so many literals, and a node of which they are the kids.
func crowd(n int, top parse.Node) parse.Tree {
	var u parse.Tree
	for i := range n {
		u = append(u, num(1))
		top.Kids = append(top.Kids, i)
	}
	return append(u, top)
}

// TestGoodPlaces holds P6.2 of how nodes stand: behind all of their kids, all of one ahead of all of the next; one tree.
func TestGoodPlaces(t *testing.T) {
	one := num(10000)
	good(t, false)
	good(t, true, one)
	good(t, false, one, one)
	good(t, false, one, one, neg(1))
	good(t, false, one, one, neg(0))
	good(t, false, one, neg(0), one)
	good(t, false, neg(1), one)
	good(t, false, neg(0))
	good(t, false, one, neg(0), neg(0))
	good(t, false, one, neg(0), bin("+", 0, 1))
	good(t, false, one, bin("+", 0, 0))
	good(t, false, one, one, bin("+", 1, 0))
	good(t, false, one, one, bin("+", 0, 2))
	good(t, false, one, one, neg(0), bin("+", 1, 2)) // all of a kid isn't ahead of all of the next
	good(t, false, one, one, neg(0), bin("+", 2, 1))
	good(t, true, one, neg(0), one, bin("+", 1, 2))
	good(t, true, one, one, neg(1), bin("+", 0, 2))
	good(t, false, one, one, one, bin("+", 0, 1), bin("+", 2, 3))
	good(t, false, one, one, one, bin("+", 0, 2), bin("+", 1, 3))
	good(t, true, one, one, bin("+", 0, 1), one, bin("+", 2, 3))
	good(t, true, one, one, one, bin("+", 1, 2), bin("+", 0, 3))
	good(t, true, one, one, one, call("F", 0, 1, 2))
	good(t, false, one, one, one, call("F", 0, 2, 1))
	good(t, false, one, one, one, call("F", 0, 2))
	good(t, false, one, one, one, call("F", 1, 2))
	good(t, true, call("F"), call("G"), bin("+", 0, 1))
	good(t, false, call("F"), call("G"))
}

// TestGoodLimits holds P6.2 at MaxNodes and at MaxDepth.
func TestGoodLimits(t *testing.T) {
	line := func(n int, next func(int) parse.Node) parse.Tree {
		u := parse.Tree{cell(0, 0)}
		for i := range n - 1 {
			u = append(u, next(i))
		}
		return u
	}
	good(t, true, line(255, pct)...)
	good(t, true, line(256, pct)...)
	good(t, false, line(257, pct)...)
	good(t, false, line(1<<16, pct)...)
	for _, next := range []func(int) parse.Node{neg, func(i int) parse.Node { return call("F", i) }} {
		for n := 1; n <= 33; n++ {
			u := line(n, next)
			good(t, true, u...)
			if u.Nesting() != n-1 {
				t.Errorf("%d nodes: nesting %d", n, u.Nesting())
			}
		}
		for _, n := range []int{34, 35, 100, 256} { // good but for its nesting
			u := line(n, next)
			if u.Good() || u.Nesting() != n-1 || !slices.Equal(u.Refs(), []addr.Full{{}}) || len(u.Calls()) > 1 {
				t.Errorf("%d nodes: %t, nesting %d, %v, %v", n, u.Good(), u.Nesting(), u.Refs(), u.Calls())
			}
		}
		good(t, false, line(257, next)...)
	}
	deep := append(line(33, neg), call("F")) // a Call without kids counts for nobody
	good(t, true, append(deep, bin("+", 32, 33))...)
	if u := append(line(34, neg), pct(33)); u.Good() || u.Nesting() != 33 {
		t.Errorf("%t, nesting %d", u.Good(), u.Nesting())
	}
}

// TestTold holds P6.3 at formulas.
func TestTold(t *testing.T) {
	for _, x := range []struct {
		s, refs, calls string
		nesting        int
	}{
		{"1", "", "", 0}, {"A1", "A1", "", 0}, {"(((1)))", "", "", 0}, {"+++1", "", "", 0}, {"-1", "", "", 1}, {"---A1", "A1", "", 3}, {"1%%%", "", "", 0}, {"-1%", "", "", 1}, {"1-2", "", "", 0}, {"1--2", "", "", 1}, {"-1--2", "", "", 1}, {"-(1--2)", "", "", 2},
		{"f()", "", "F", 0}, {"-f()", "", "F", 1}, {"f(1)", "", "F", 1}, {"f(g())", "", "G F", 1}, {"f(-1)", "", "F", 2}, {"f(g(h(1)))", "", "H G F", 3}, {"f(g(),h())", "", "G H F", 1}, {"-f(-g(-1%))", "", "G F", 5}, {"f(1)+g(f(1))", "", "F G", 2}, {"F(1)+f(2)", "", "F", 1},
		{"A1+A1", "A1", "", 0}, {"B1+A1+B1", "B1 A1", "", 0}, {"B1+A1*C1", "B1 A1 C1", "", 0}, {"a1+A1", "A1", "", 0}, {"A1:B2+A1+B2+b2:a1", "A1:B2 A1 B2", "", 0}, {"A1+A1:A1", "A1 A1:A1", "", 0}, {"A1+$A1+A$1+$A$1+$a1", "A1 $A1 A$1 $A$1", "", 0},
		{"S!A1+s!A1+A1+[B]S!A1+S!a1", "S!A1 s!A1 A1 [B]S!A1", "", 0},
		{"f(A1,-g(A1:B2),A1,f(S!A1))", "A1 A1:B2 S!A1", "G F", 3}, {"TRUE+true()", "", "TRUE", 0}, {"a1(A1)", "A1", "A1", 1}, {`"A1"&"f()"`, "", "", 0}, {"#REF!&x", "", "", 0},
		{within(31, "-", "f(A1)", ""), "A1", "F", 32}, {within(32, "f(", "A1", ")"), "A1", "F", 32}, {within(32, "(", "A1", ")"), "A1", "", 0},
	} {
		u, e := parse.Parse(x.s)
		var refs []string
		for _, f := range u.Refs() {
			refs = append(refs, f.Text())
		}
		calls := strings.Join(u.Calls(), " ")
		if e != 0 || strings.Join(refs, " ") != x.refs || calls != x.calls || u.Nesting() != x.nesting {
			t.Errorf("%.80q: %v, %q, %d; want %q, %q, %d", x.s, refs, calls, u.Nesting(), x.refs, x.calls, x.nesting)
		}
	}
	for _, u := range []parse.Tree{nil, {}, {cell(0, 0), cell(0, 0)}, {call("F"), cell(0, 0)}, {cell(0, 0), call("f", 0)}, {cell(0, 0), neg(1)}} {
		if len(u.Refs()) != 0 || len(u.Calls()) != 0 || u.Nesting() != 0 {
			t.Errorf("%s: %v, %v, %d", drawn(u), u.Refs(), u.Calls(), u.Nesting())
		}
	}
}

// TestTreeStays holds that nothing of a tree is changed, nor read behind its length.
func TestTreeStays(t *testing.T) {
	u, _ := parse.Parse("f(A1,-g(A1:B2),A1,f(S!A1))")
	kept, _ := parse.Parse("f(A1,-g(A1:B2),A1,f(S!A1))")
	long := append(slices.Clone(u), num(-1), neg(math.MaxInt))
	for i := range long {
		long[i].Kids = append(slices.Clone(long[i].Kids), math.MinInt)[:len(long[i].Kids)]
	}
	part := long[:len(u)]
	if !part.Good() || len(part.Refs()) != 3 || len(part.Calls()) != 2 || part.Nesting() != 3 || !same(part, kept) {
		t.Errorf("%s", drawn(part))
	}
	if long[len(u)].Value.Num != -1 {
		t.Error("what lies behind the tree is another one")
	}
	for i := range part {
		if k := part[i].Kids; k[:len(k)+1][len(k)] != math.MinInt {
			t.Errorf("what lies behind the kids of %d is another one", i)
		}
	}
}
