package show_test

import (
	"math"
	"slices"
	"strings"
	"testing"

	"lattice/addr"
	"lattice/api"
	"lattice/fixed"
	"lattice/parse"
	"lattice/show"
	"lattice/value"
)

// The nodes of tests.

func lit(v value.Value) parse.Node   { return parse.Node{Kind: parse.Lit, Value: v} }
func num(parts fixed.Num) parse.Node { return lit(value.Value{Kind: value.Number, Num: parts}) }
func text(s string) parse.Node       { return lit(value.Value{Kind: value.Text, Text: s}) }
func truth(b bool) parse.Node        { return lit(value.Value{Kind: value.Bool, True: b}) }
func fail(f value.Fail) parse.Node   { return lit(value.Value{Kind: value.Error, Fail: f}) }
func full(f addr.Full) parse.Node    { return parse.Node{Kind: parse.Ref, Ref: f} }
func neg(kid int) parse.Node         { return parse.Node{Kind: parse.Neg, Kids: []int{kid}} }
func pct(kid int) parse.Node         { return parse.Node{Kind: parse.Pct, Kids: []int{kid}} }
func bin(op string, a, b int) parse.Node {
	return parse.Node{Kind: parse.Bin, Op: op, Kids: []int{a, b}}
}
func call(op string, kids ...int) parse.Node {
	return parse.Node{Kind: parse.Call, Op: op, Kids: kids}
}

// cell is a reference to one cell that isn't fixed, of this sheet.
func cell(col, row int) parse.Node { return full(addr.Full{From: ref(col, row)}) }

func ref(col, row int) addr.Ref { return addr.Ref{Cell: addr.Cell{Col: col, Row: row}} }

// lines are the operators between two, by their levels from 1 on.
func lines() [][]string {
	return [][]string{{"=", "<>", "<", "<=", ">", ">="}, {"&"}, {"+", "-"}, {"*", "/"}, {"^"}}
}

// within is s between so many openings and closings.
func within(n int, open, s, closing string) string {
	return strings.Repeat(open, n) + s + strings.Repeat(closing, n)
}

// hold holds what Formula and Full tell of a tree.
func hold(t *testing.T, formula, wholly string, tree ...parse.Node) {
	t.Helper()
	if s := show.Formula(tree); s != formula {
		t.Errorf("Formula: %.300q; want %.300q", s, formula)
	}
	if s := show.Full(tree); s != wholly {
		t.Errorf("Full: %.300q; want %.300q", s, wholly)
	}
}

// alike holds that both tell the same of a tree, which is parsed to it.
func alike(t *testing.T, want string, tree ...parse.Node) {
	t.Helper()
	hold(t, want, want, tree...)
	back(t, tree)
}

// written holds what is told of a formula's tree.
func written(t *testing.T, s, formula, wholly string) {
	t.Helper()
	tree := treeOf(t, s)
	hold(t, formula, wholly, tree...)
	back(t, tree)
}

func treeOf(t *testing.T, s string) parse.Tree {
	t.Helper()
	tree, e := parse.Parse(s)
	if e != api.OK {
		t.Fatalf("%.120q: %d", s, e)
	}
	return tree
}

// TestLevel holds P7.1 of levels: they hang on the kind, and of Bin on its operator.
func TestLevel(t *testing.T) {
	level := func(want int, n parse.Node) {
		t.Helper()
		for _, kids := range [][]int{nil, {0}, {0, 1}, {-1, math.MaxInt, 5}} {
			n.Kids = kids
			if k := show.Level(n); k != want {
				t.Errorf("Level(%d %q): %d; want %d", n.Kind, n.Op, k, want)
			}
		}
	}
	for i, line := range lines() {
		for _, op := range line {
			level(i+1, bin(op, 0, 1))
			level(i+1, parse.Node{Kind: parse.Bin, Op: op, Value: value.N(1), Ref: addr.Full{Book: "B"}})
			for kind, want := range map[parse.Kind]int{parse.Lit: 8, parse.Ref: 8, parse.Neg: 6, parse.Pct: 7, parse.Call: 8, parse.Kinds: 0} {
				level(want, parse.Node{Kind: kind, Op: op})
			}
		}
	}
	for _, op := range []string{"", "%", "!", "==", "=>", "=<", "><", "<=>", "++", "--", "**", "^^", "&&", " ", "+ ", " +", "(", ")", ",", ":", "A", "SUM", "\x00", "\xff", strings.Repeat("+", 1<<16)} {
		level(0, bin(op, 0, 1))
	}
	level(6, neg(0))
	level(7, pct(0))
	for _, n := range []parse.Node{{}, num(0), num(-1), text("+"), truth(true), fail(value.Ref), fail(value.Fails), cell(0, 0), full(addr.Full{Book: "1"}), cell(-1, math.MaxInt), call("F"), call("F", 0, 1), call(""), call("f")} {
		level(8, n)
	}
	for _, k := range []parse.Kind{-1, parse.Kinds, parse.Kinds + 1, 9, math.MaxInt, math.MinInt} {
		level(0, parse.Node{Kind: k})
		level(0, parse.Node{Kind: k, Op: "+", Value: value.N(1)})
	}
}

// plains are nodes without kids, and how they are written.
func plains() map[string]parse.Node {
	a1, c9 := ref(0, 0), addr.Ref{Cell: addr.Cell{Col: 2, Row: 8}, FixCol: true, FixRow: true}
	return map[string]parse.Node{
		"0": num(0), "1": num(10000), "1.5": num(15000), "0.0001": num(1), "12.34": num(123400), "900000000000000": num(9000000000000000000), "899999999999999.9999": num(8999999999999999999),
		`""`: text(""), `"x"`: text("x"), `" "`: text(" "), `"x""y"`: text(`x"y`), `""""`: text(`"`), `""""""`: text(`""`), `"(1,2)"`: text("(1,2)"), `"+"`: text("+"), `"1"`: text("1"), `"A1"`: text("A1"), `"TRUE"`: text("TRUE"), `"true"`: text("true"), `"#N/A"`: text("#N/A"), "\"\x00\n\xff\"": text("\x00\n\xff"), `"é"`: text("é"),
		`"` + strings.Repeat("x", 255) + `"`: text(strings.Repeat("x", 255)), `"` + strings.Repeat(`""`, 255) + `"`: text(strings.Repeat(`"`, 255)),
		"TRUE": truth(true), "FALSE": truth(false),
		"#DIV/0!": fail(value.Div0), "#NUM!": fail(value.Num), "#VALUE!": fail(value.Val), "#REF!": fail(value.Ref), "#NAME?": fail(value.Name), "#N/A": fail(value.NA), "#CYCLE!": fail(value.Cycle), "#LINK!": fail(value.Link),
		"A1": full(addr.Full{From: a1}), "AB1": cell(27, 0), "BL1024": cell(63, 1023), "$C$9": full(addr.Full{From: c9}), "$A1": full(addr.Full{From: addr.Ref{FixCol: true}}), "A$1": full(addr.Full{From: addr.Ref{FixRow: true}}), "A1:$C$9": full(addr.Full{From: a1, To: c9, Wide: true}), "A1:A1": full(addr.Full{From: a1, To: a1, Wide: true}), "A1:BL64": full(addr.Full{From: a1, To: ref(63, 63), Wide: true}),
		"S!A1": full(addr.Full{Sheet: "S", From: a1}), "s!A1:B2": full(addr.Full{Sheet: "s", From: a1, To: ref(1, 1), Wide: true}), "TRUE!A1": full(addr.Full{Sheet: "TRUE", From: a1}), "[B1]S!A1:$C$9": full(addr.Full{Book: "B1", Sheet: "S", From: a1, To: c9, Wide: true}), "[_b]A1!B2": full(addr.Full{Book: "_b", Sheet: "A1", From: ref(1, 1)}),
		"F()": call("F"), "SUM()": call("SUM"), "TRUE()": call("TRUE"), "A1()": call("A1"), "LOG10()": call("LOG10"), "_()": call("_"), "ABCDEFGHIJKLMNOP()": call("ABCDEFGHIJKLMNOP"),
	}
}

// TestPlain holds P7.1 and P7.2 of what stands alone, and of such operands, none of which stands in parentheses.
func TestPlain(t *testing.T) {
	for s, n := range plains() {
		alike(t, s, n)
		alike(t, "-"+s, n, neg(0))
		alike(t, s+"%", n, pct(0))
		alike(t, "G("+s+")", n, call("G", 0))
		alike(t, "G("+s+","+s+",A1)", n, n, cell(0, 0), call("G", 0, 1, 2))
		for _, line := range lines() {
			for _, op := range line {
				alike(t, s+op+"1", n, num(10000), bin(op, 0, 1))
				alike(t, "A1"+op+s, cell(0, 0), n, bin(op, 0, 1))
				alike(t, s+op+s, n, n, bin(op, 0, 1))
			}
		}
	}
}

// TestArguments holds P7.1 and P7.2: arguments stand in no parentheses of their own, whatever their level.
func TestArguments(t *testing.T) {
	one, two := num(10000), num(20000)
	alike(t, "F(1,2)", one, two, call("F", 0, 1))
	alike(t, "F(-1)", one, neg(0), call("F", 1))
	alike(t, "F(1%,-2)", one, pct(0), two, neg(2), call("F", 1, 3))
	alike(t, "F(G(),H(1,2),I(J()))", call("G"), one, two, call("H", 1, 2), call("J"), call("I", 4), call("F", 0, 3, 5))
	for _, line := range lines() {
		for _, op := range line {
			alike(t, "F(1"+op+"2)", one, two, bin(op, 0, 1), call("F", 2))
			alike(t, "F(1,1"+op+"2,2)", one, one, two, bin(op, 1, 2), two, call("F", 0, 3, 4))
			hold(t, "-F(1"+op+"2)%", "-(F(1"+op+"2)%)", one, two, bin(op, 0, 1), call("F", 2), pct(3), neg(4))
		}
	}
	for _, n := range []int{1, 2, 31, 32} {
		tree := parse.Tree{}
		top := call("MANY")
		for i := range n {
			tree, top.Kids = append(tree, num(fixed.Num(i)*10000)), append(top.Kids, i)
		}
		want := "MANY("
		for i := range n {
			want += "," + fixed.Num(i*10000).Text()
		}
		alike(t, strings.Replace(want, "(,", "(", 1)+")", append(tree, top)...)
	}
}

// TestBetween holds P7.1 and P7.2 at each two operators: which of them, as an operand, stands in parentheses.
func TestBetween(t *testing.T) {
	one, two, three := num(10000), num(20000), num(30000)
	for i, line := range lines() {
		for _, outer := range line {
			for j, other := range lines() {
				for _, inner := range other {
					first, second := "1"+inner+"2", "2"+inner+"3"
					left, right := first+outer+"3", "1"+outer+second
					if j < i {
						left = "(" + first + ")" + outer + "3"
					}
					if j <= i {
						right = "1" + outer + "(" + second + ")"
					}
					hold(t, left, "("+first+")"+outer+"3", one, two, bin(inner, 0, 1), three, bin(outer, 2, 3))
					hold(t, right, "1"+outer+"("+second+")", one, two, three, bin(inner, 1, 2), bin(outer, 0, 3))
				}
			}
		}
	}
}

// TestSigns holds P7.1 and P7.2 of signs ahead of operands and behind them.
func TestSigns(t *testing.T) {
	one, two := num(10000), num(20000)
	hold(t, "--1", "-(-1)", one, neg(0), neg(1))
	hold(t, "---1", "-(-(-1))", one, neg(0), neg(1), neg(2))
	hold(t, "1%%", "(1%)%", one, pct(0), pct(1))
	hold(t, "1%%%", "((1%)%)%", one, pct(0), pct(1), pct(2))
	hold(t, "-1%", "-(1%)", one, pct(0), neg(1))
	hold(t, "(-1)%", "(-1)%", one, neg(0), pct(1))
	hold(t, "(--1)%", "(-(-1))%", one, neg(0), neg(1), pct(2))
	hold(t, "-(-1)%", "-((-1)%)", one, neg(0), pct(1), neg(2))
	for _, line := range lines() {
		for _, op := range line {
			hold(t, "-(1"+op+"2)", "-(1"+op+"2)", one, two, bin(op, 0, 1), neg(2))
			hold(t, "(1"+op+"2)%", "(1"+op+"2)%", one, two, bin(op, 0, 1), pct(2))
			hold(t, "-1"+op+"2", "(-1)"+op+"2", one, neg(0), two, bin(op, 1, 2))
			hold(t, "1"+op+"-2", "1"+op+"(-2)", one, two, neg(1), bin(op, 0, 2))
			hold(t, "1%"+op+"2%", "(1%)"+op+"(2%)", one, pct(0), two, pct(2), bin(op, 1, 3))
			hold(t, "--1"+op+"--2", "(-(-1))"+op+"(-(-2))", one, neg(0), neg(1), two, neg(3), neg(4), bin(op, 2, 5))
			hold(t, "-(1"+op+"2)%", "-((1"+op+"2)%)", one, two, bin(op, 0, 1), pct(2), neg(3))
			hold(t, "(-(1"+op+"2))%", "(-(1"+op+"2))%", one, two, bin(op, 0, 1), neg(2), pct(3))
		}
	}
}

// TestShapes holds P7.1 and P7.2 at formulas of several parts.
func TestShapes(t *testing.T) {
	written(t, "1+A1*-2", "1+A1*-2", "1+(A1*(-2))")
	written(t, "1-2-3-4", "1-2-3-4", "((1-2)-3)-4")
	written(t, "1-(2-(3-4))", "1-(2-(3-4))", "1-(2-(3-4))")
	written(t, "2^3^4", "2^3^4", "(2^3)^4")
	written(t, "2^(3^4)", "2^(3^4)", "2^(3^4)")
	written(t, "-2^2", "-2^2", "(-2)^2")
	written(t, "-(2^2)", "-(2^2)", "-(2^2)")
	written(t, "1=2&3+4*5^6", "1=2&3+4*5^6", "1=(2&(3+(4*(5^6))))")
	written(t, "1^2*3+4&5=6", "1^2*3+4&5=6", "((((1^2)*3)+4)&5)=6")
	written(t, "((((1=2)&3)+4)*5)^6", "((((1=2)&3)+4)*5)^6", "((((1=2)&3)+4)*5)^6")
	written(t, "1+2-3", "1+2-3", "(1+2)-3")
	written(t, "1+(2-3)", "1+(2-3)", "1+(2-3)")
	written(t, "1*2/3+4/(5*6)", "1*2/3+4/(5*6)", "((1*2)/3)+(4/(5*6))")
	written(t, "1<2=(3>4)", "1<2=(3>4)", "(1<2)=(3>4)")
	written(t, "f(1+2*3,-g(4%))%", "F(1+2*3,-G(4%))%", "F(1+(2*3),-G(4%))%")
	written(t, `if(a1>=0,"yes"&s!b2,[B]S!$a$1:b2)`, `IF(A1>=0,"yes"&s!B2,[B]S!$A$1:B2)`, `IF(A1>=0,"yes"&s!B2,[B]S!$A$1:B2)`)
	written(t, "true+false*nothing", "TRUE+FALSE*#NAME?", "TRUE+(FALSE*#NAME?)")
	written(t, "1+f(2)-(3)", "1+F(2)-3", "(1+F(2))-3")
	written(t, "((A1))%", "A1%", "A1%")
}

// TestNoTrees holds P7.1 and P7.2 of trees that aren't good: the empty text.
func TestNoTrees(t *testing.T) {
	one := num(10000)
	none := func(tree ...parse.Node) {
		t.Helper()
		hold(t, "", "", tree...)
	}
	none()
	hold(t, "", "", parse.Tree{}...)
	for _, n := range []parse.Node{
		{}, num(-1), num(9000000000000000001), num(math.MinInt64), text(strings.Repeat("x", 256)), fail(value.None), fail(value.Fails), lit(value.Value{Kind: value.Kinds}), lit(value.Value{Kind: value.Number, Text: "x"}), {Kind: parse.Lit, Op: "+", Value: value.N(1)}, {Kind: parse.Lit, Value: value.N(1), Kids: []int{0}},
		cell(64, 0), cell(0, -1), full(addr.Full{Book: "B"}), full(addr.Full{Sheet: "1"}), full(addr.Full{To: ref(1, 1)}), full(addr.Full{From: ref(1, 1), Wide: true}), full(addr.Full{To: ref(63, 64), Wide: true}),
		call(""), call("f"), call("A B"), call("ABCDEFGHIJKLMNOPQ"), call("1"), call("F", 0), neg(0), pct(0), bin("+", 0, 0), {Kind: parse.Kinds}, {Kind: -1}, {Kind: math.MaxInt}, {Kind: math.MinInt},
	} {
		none(n)
		none(n, neg(0))
		none(n, one, bin("+", 0, 1))
		none(one, n, call("F", 0, 1))
	}
	for _, tree := range []parse.Tree{
		{one, one}, {one, one, neg(1)}, {one, neg(0), one}, {one, neg(1)}, {one, neg(-1)}, {one, neg(math.MaxInt)}, {one, neg(math.MinInt)}, {one, pct(1)}, {one, {Kind: parse.Neg}}, {one, {Kind: parse.Pct}}, {one, one, {Kind: parse.Neg, Kids: []int{0, 1}}},
		{one, bin("+", 0, 0)}, {one, one, bin("+", 1, 0)}, {one, one, bin("+", 0, 2)}, {one, one, bin("%", 0, 1)}, {one, one, bin("", 0, 1)}, {one, one, bin("=>", 0, 1)}, {one, one, bin("F", 0, 1)}, {one, {Kind: parse.Bin, Op: "+", Kids: []int{0}}}, {one, one, one, {Kind: parse.Bin, Op: "+", Kids: []int{0, 1, 2}}}, {{Kind: parse.Bin, Op: "+"}},
		{one, one, call("F", 1, 0)}, {one, one, call("F", 0)}, {one, call("f", 0)}, {one, call("+", 0)}, {one, {Kind: parse.Call, Kids: []int{0}}}, {call("F"), one},
	} {
		none(tree...)
	}
	many, top := parse.Tree{}, call("F")
	for i := range 33 {
		many, top.Kids = append(many, one), append(top.Kids, i)
	}
	none(append(many, top)...)
}

// TestLimits holds P7.1 and P7.2 of trees at MaxNodes, and at MaxDepth.
func TestLimits(t *testing.T) {
	line := func(n int, next func(int) parse.Node) parse.Tree {
		tree := parse.Tree{cell(0, 0)}
		for i := range n - 1 {
			tree = append(tree, next(i))
		}
		return tree
	}
	hold(t, "A1"+strings.Repeat("%", 255), within(254, "(", "A1%", ")%"), line(256, pct)...)
	hold(t, "", "", line(257, pct)...)
	hold(t, "", "", line(1<<16, pct)...)
	f := func(i int) parse.Node { return call("F", i) }
	hold(t, within(32, "-", "A1", ""), "-"+within(31, "(-", "A1", ")"), line(33, neg)...)
	hold(t, within(32, "F(", "A1", ")"), within(32, "F(", "A1", ")"), line(33, f)...)
	for _, n := range []int{34, 35, 256, 257} {
		hold(t, "", "", line(n, neg)...)
		hold(t, "", "", line(n, f)...)
	}
	sum := parse.Tree{num(10000)}
	for range 127 {
		sum = append(sum, num(10000), bin("+", len(sum)-1, len(sum)))
	}
	hold(t, strings.Repeat("1+", 127)+"1", within(126, "(", "1+1", ")+1"), sum...)
	long := parse.Tree{text(strings.Repeat(`"`, 255))}
	for range 127 {
		long = append(long, long[0], bin("&", len(long)-1, len(long)))
	}
	quoted := `"` + strings.Repeat(`""`, 255) + `"`
	hold(t, strings.Repeat(quoted+"&", 127)+quoted, within(126, "(", quoted+"&"+quoted, ")&"+quoted), long...)
}

// TestDeepText holds P7.1 and P7.2 of a good tree whose text stands deeper in parentheses than a formula may: it is told all the same.
func TestDeepText(t *testing.T) {
	for _, n := range []int{31, 32, 33, 100, 127} {
		tree := parse.Tree{}
		for range n + 1 {
			tree = append(tree, num(10000))
		}
		for i := range n {
			tree = append(tree, bin("-", n-1-i, n+i))
		}
		s := "1-" + within(n-1, "(1-", "1", ")")
		hold(t, s, s, tree...)
		want := api.OK
		if n-1 > 32 {
			want = api.ErrDeep
		}
		if _, e := parse.Parse(s); e != want {
			t.Errorf("%d operators: %d; want %d", n, e, want)
		}
	}
}

// TestTreeStays holds that nothing of a tree is changed, nor read behind its length.
func TestTreeStays(t *testing.T) {
	kept := treeOf(t, "-f(A1,g(1+2)%)^(3-x)")
	long := append(slices.Clone(kept), num(-1), neg(math.MaxInt))
	for i := range long {
		long[i].Kids = append(slices.Clone(long[i].Kids), math.MinInt)[:len(long[i].Kids)]
	}
	part := long[:len(kept)]
	hold(t, "-F(A1,G(1+2)%)^(3-#NAME?)", "(-F(A1,G(1+2)%))^(3-#NAME?)", part...)
	if !same(part, kept) || long[len(kept)].Value.Num != -1 {
		t.Error("the tree is another one")
	}
	for i := range part {
		if k := part[i].Kids; k[:len(k)+1][len(k)] != math.MinInt {
			t.Errorf("what lies behind the kids of %d is another one", i)
		}
	}
}
