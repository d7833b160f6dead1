package parse_test

import (
	"slices"
	"strconv"
	"strings"
	"testing"

	"lattice/addr"
	"lattice/api"
	"lattice/fixed"
	"lattice/parse"
	"lattice/value"
)

// The nodes of tests.

func lit(v value.Value) parse.Node   { return parse.Node{Kind: parse.Lit, Value: v} }
func num(parts fixed.Num) parse.Node { return lit(value.Value{Kind: value.Number, Num: parts}) }
func text(s string) parse.Node       { return lit(value.Value{Kind: value.Text, Text: s}) }
func truth(b bool) parse.Node        { return lit(value.Value{Kind: value.Bool, True: b}) }
func fail(f value.Fail) parse.Node   { return lit(value.Value{Kind: value.Error, Fail: f}) }
func full(f addr.Full) parse.Node    { return parse.Node{Kind: parse.Ref, Ref: f} }
func neg(kid int) parse.Node         { return parse.Node{Kind: parse.Neg, Kids: []int{kid}} }
func pct(kid int) parse.Node         { return parse.Node{Kind: parse.Pct, Kids: []int{kid}} }
func bin(op string, a, b int) parse.Node {
	return parse.Node{Kind: parse.Bin, Op: op, Kids: []int{a, b}}
}
func call(op string, kids ...int) parse.Node {
	return parse.Node{Kind: parse.Call, Op: op, Kids: kids}
}

// cell is a reference to one cell that isn't fixed, of this sheet.
func cell(col, row int) parse.Node { return full(addr.Full{From: ref(col, row)}) }

func ref(col, row int) addr.Ref { return addr.Ref{Cell: addr.Cell{Col: col, Row: row}} }

// same: are two trees of the same nodes? (A list without elements may be nil or not.)
func same(a, b parse.Tree) bool {
	return slices.EqualFunc(a, b, func(x, y parse.Node) bool {
		return x.Kind == y.Kind && x.Op == y.Op && x.Value == y.Value && x.Ref == y.Ref && slices.Equal(x.Kids, y.Kids)
	})
}

// hold holds that Parse tells just this tree, which is good.
func hold(t *testing.T, s string, want ...parse.Node) {
	t.Helper()
	got, e := parse.Parse(s)
	if !same(got, want) || e != api.OK {
		t.Errorf("Parse(%.80q): %.300s, %d; want %.300s", s, drawn(got), e, drawn(want))
	}
	if !got.Good() {
		t.Errorf("Parse(%.80q): %.300s isn't good", s, drawn(got))
	}
}

// refused holds that Parse tells no tree, but that error.
func refused(t *testing.T, s string, want api.Errno) {
	t.Helper()
	if got, e := parse.Parse(s); len(got) != 0 || e != want {
		t.Errorf("Parse(%.80q): %.300s, %d; want %d", s, drawn(got), e, want)
	}
}

// nodes holds how many nodes the tree of a formula has.
func nodes(t *testing.T, s string, want int) {
	t.Helper()
	if got, e := parse.Parse(s); len(got) != want || e != api.OK || !got.Good() {
		t.Errorf("Parse(%.80q): %d nodes, %d; want %d", s, len(got), e, want)
	}
}

// drawn is a tree in one line.
func drawn(t parse.Tree) string {
	var all []string
	for _, n := range t {
		s := strconv.Itoa(int(n.Kind)) + ":" + n.Op + n.Value.Show()
		if n.Kind == parse.Ref {
			s += n.Ref.Text()
		}
		for _, k := range n.Kids {
			s += " " + strconv.Itoa(k)
		}
		all = append(all, s)
	}
	return "{" + strings.Join(all, "; ") + "}"
}

// within is s between so many openings and closings.
func within(n int, open, s, closing string) string {
	return strings.Repeat(open, n) + s + strings.Repeat(closing, n)
}

// TestKinds holds the order in which the kinds are numbered.
func TestKinds(t *testing.T) {
	for i, k := range []parse.Kind{parse.Lit, parse.Ref, parse.Neg, parse.Pct, parse.Bin, parse.Call, parse.Kinds} {
		if int(k) != i {
			t.Errorf("kind %d is %d", i, k)
		}
	}
}

// TestExample holds P6.1 at the document's examples.
func TestExample(t *testing.T) {
	hold(t, "1+A1*-2", num(10000), cell(0, 0), num(20000), neg(2), bin("*", 1, 3), bin("+", 0, 4))
	hold(t, "-2^2", num(20000), neg(0), num(20000), bin("^", 1, 2))
	hold(t, "2^-1", num(20000), num(10000), neg(1), bin("^", 0, 2))
}

// TestOperands holds P6.1 of all that stands alone.
func TestOperands(t *testing.T) {
	a1, c9 := ref(0, 0), addr.Ref{Cell: addr.Cell{Col: 2, Row: 8}, FixCol: true, FixRow: true}
	for s, want := range map[string]parse.Node{
		"0": num(0), "007.10": num(71000), "900000000000000": num(9000000000000000000), "0.00004": num(0),
		`""`: text(""), `"x""y"`: text(`x"y`), `"TRUE"`: text("TRUE"), `"1"`: text("1"), `"+"`: text("+"), `"%"`: text("%"), `"A1"`: text("A1"), `"#N/A"`: text("#N/A"), `"(,)"`: text("(,)"), "\"\x00\xff\"": text("\x00\xff"),
		"#DIV/0!": fail(value.Div0), "#NUM!": fail(value.Num), "#VALUE!": fail(value.Val), "#REF!": fail(value.Ref), "#NAME?": fail(value.Name), "#N/A": fail(value.NA), "#CYCLE!": fail(value.Cycle), "#LINK!": fail(value.Link),
		"A1": cell(0, 0), "bl1024": cell(63, 1023), "s!a1": full(addr.Full{Sheet: "s", From: a1}), "TRUE!A1": full(addr.Full{Sheet: "TRUE", From: a1}), "[B1]S!$c$9:A1": full(addr.Full{Book: "B1", Sheet: "S", From: a1, To: c9, Wide: true}),
		"true": truth(true), "TRUE": truth(true), "tRuE": truth(true), "false": truth(false), "FALSE": truth(false),
		"x": fail(value.Name), "nothing": fail(value.Name), "_": fail(value.Name), "TRUE_": fail(value.Name), "_FALSE": fail(value.Name), "TRUE1": fail(value.Name), "A0": fail(value.Name), "SUM": fail(value.Name),
		"f()": call("F"), "f ( )": call("F"), "true()": call("TRUE"), "False()": call("FALSE"), "a1()": call("A1"), "log10()": call("LOG10"), "_()": call("_"), "abcdefghijklmnop()": call("ABCDEFGHIJKLMNOP"),
	} {
		hold(t, s, want)
		hold(t, " "+s+" ", want)
		hold(t, "("+s+")", want)
		hold(t, "( ( "+s+" ) )", want)
		hold(t, "+"+s, want)
		hold(t, "+(+ +"+s+")", want)
		hold(t, "-"+s, want, neg(0))
		hold(t, s+"%", want, pct(0))
		hold(t, "-"+s+"%", want, pct(0), neg(1))
		hold(t, "(-"+s+")%", want, neg(0), pct(1))
		hold(t, s+"&"+s, want, want, bin("&", 0, 1))
		hold(t, "g("+s+")", want, call("G", 0))
		hold(t, "g("+s+","+s+")", want, want, call("G", 0, 1))
	}
}

// TestLongTexts holds P6.1 of a text of MaxText bytes.
func TestLongTexts(t *testing.T) {
	long := strings.Repeat("x", 255)
	hold(t, `"`+long+`"`, text(long))
	hold(t, `f(-"`+long+`")`, text(long), neg(0), call("F", 1))
}

// TestBinding holds P6.1's grammar at each two operators: which of them binds first.
func TestBinding(t *testing.T) {
	lines := []string{"= <> < <= > >=", "&", "+ -", "* /", "^"}
	for i, line := range lines {
		for _, x := range strings.Fields(line) {
			hold(t, "1"+x+"A1", num(10000), cell(0, 0), bin(x, 0, 1))
			for j, other := range lines {
				for _, y := range strings.Fields(other) {
					s := "1 " + x + " 2 " + y + " 3"
					if j > i {
						hold(t, s, num(10000), num(20000), num(30000), bin(y, 1, 2), bin(x, 0, 3))
					} else {
						hold(t, s, num(10000), num(20000), bin(x, 0, 1), num(30000), bin(y, 2, 3))
					}
					hold(t, "1"+x+"(2"+y+"3)", num(10000), num(20000), num(30000), bin(y, 1, 2), bin(x, 0, 3))
					hold(t, "(1"+x+"2)"+y+"3", num(10000), num(20000), bin(x, 0, 1), num(30000), bin(y, 2, 3))
				}
			}
			for _, sign := range []string{"+", "-"} { // signs bind more than any operator between two
				signed := []parse.Node{num(20000)}
				if sign == "-" {
					signed = append(signed, neg(0))
				}
				hold(t, sign+"2 "+x+" 3", append(signed, num(30000), bin(x, len(signed)-1, len(signed)))...)
			}
			hold(t, "1 "+x+" -2%", num(10000), num(20000), pct(1), neg(2), bin(x, 0, 3))
			hold(t, "1% "+x+" 2", num(10000), pct(0), num(20000), bin(x, 1, 2))
		}
	}
}

// TestShapes holds P6.1 at formulas of several parts.
func TestShapes(t *testing.T) {
	one, two, three, four := num(10000), num(20000), num(30000), num(40000)
	hold(t, "1-2-3", one, two, bin("-", 0, 1), three, bin("-", 2, 3))
	hold(t, "1-(2-3)", one, two, three, bin("-", 1, 2), bin("-", 0, 3))
	hold(t, "2^3^4", two, three, bin("^", 0, 1), four, bin("^", 2, 3))
	hold(t, "1<2=3", one, two, bin("<", 0, 1), three, bin("=", 2, 3))
	hold(t, "1=2&3+4*1^2", one, two, three, four, one, two, bin("^", 4, 5), bin("*", 3, 6), bin("+", 2, 7), bin("&", 1, 8), bin("=", 0, 9))
	hold(t, "1^2*3+4&1=2", one, two, bin("^", 0, 1), three, bin("*", 2, 3), four, bin("+", 4, 5), one, bin("&", 6, 7), two, bin("=", 8, 9))
	hold(t, "--+1", one, neg(0), neg(1))
	hold(t, "1--2", one, two, neg(1), bin("-", 0, 2))
	hold(t, "1++2", one, two, bin("+", 0, 1))
	hold(t, "1-+-2", one, two, neg(1), bin("-", 0, 2))
	hold(t, "1%%", one, pct(0), pct(1))
	hold(t, "-1%%", one, pct(0), pct(1), neg(2))
	hold(t, "-(1%)", one, pct(0), neg(1))
	hold(t, "(1+2)%", one, two, bin("+", 0, 1), pct(2))
	hold(t, "1+2%", one, two, pct(1), bin("+", 0, 2))
	hold(t, "2^-1^3", two, one, neg(1), bin("^", 0, 2), three, bin("^", 3, 4))
	hold(t, "-(-1)", one, neg(0), neg(1))
	hold(t, "f(1)%", one, call("F", 0), pct(1))
	hold(t, "f(-1,+2,3%)", one, neg(0), two, three, pct(3), call("F", 1, 2, 4))
	hold(t, "sum(1,A1:B2,g(2))", one, full(addr.Full{From: ref(0, 0), To: ref(1, 1), Wide: true}), two, call("G", 2), call("SUM", 0, 1, 3))
	hold(t, "f((1),(2+3))", one, two, three, bin("+", 1, 2), call("F", 0, 3))
	hold(t, "f(g(),h(i()),1)+j()", call("G"), call("I"), call("H", 1), one, call("F", 0, 2, 3), call("J"), bin("+", 4, 5))
	hold(t, "f(f(f(1)))", one, call("F", 0), call("F", 1), call("F", 2))
	hold(t, "f(1)=g(2)", one, call("F", 0), two, call("G", 2), bin("=", 1, 3))
	hold(t, "-f(1)^-(2)", one, call("F", 0), neg(1), two, neg(3), bin("^", 2, 4))
	hold(t, "x(y)", fail(value.Name), call("X", 0))
	hold(t, "IF(TRUE,1,\"no\")", truth(true), one, text("no"), call("IF", 0, 1, 2))
	hold(t, `"a"&"b"&1`, text("a"), text("b"), bin("&", 0, 1), one, bin("&", 2, 3))
}

// TestNoFormulas holds P6.1's ErrForm of tokens that aren't a formula's.
func TestNoFormulas(t *testing.T) {
	for _, s := range []string{
		"", " ", "      ", "1 2", "1 A1", "A1 A1", "x y", `"a" "b"`, `1"+"2`, `1 "%"`, "1#N/A", "TRUE FALSE", "1(2)", "(1)(2)", "(1)2", "1(", `"a"(1)`, "#N/A()", "1()",
		"(", ")", "()", "(())", ")(", "(1", "1)", "((1)", "(1))", "(1,2)", "(,)", "(1,)", ",", "1,2", ",1", "1,", "(1),(2)",
		"f(", "f)", "f(1", "f(1))", "f(,)", "f(1,)", "f(,1)", "f(1,,2)", "f(1 2)", "f((1,2))", "f()()", "f(1)(2)", "f()1", "f()x", "f(()", "f(())", "(f)()", "f(1)g(2)", "f g(1)", "A1(2", "$A$1(2)", "S!A1(2)", "$A$1()", "f(*)", "f(1+)", "f(g(1,)", "f(g(1),",
		"+", "-", "--", "1+", "1-", "1--", "+-", "1+-", "*1", "/1", "^1", "&1", "=1", "<1", "<>1", ">=1", "1*", "1^", "1&", "1=", "1<>", "1+*2", "1**2", "1^/2", "1=>2", "1=<2", "1==2", "1<<2", "1&&2", "1<=>2", "(1+)", "(+)", "(1)+", "-*1", "-(", "-()", "-)", "1+()",
		"%", "%1", "1%2", "1%A1", "1%(2)", "1%f(2)", "%%", "-%", "1+%", "1+%2", "(%)", "(%1)", "f(%)", "1(%)", "1%x", "+%", "1 % %2",
	} {
		refused(t, s, api.ErrForm)
		refused(t, " "+s+"  ", api.ErrForm)
	}
}

// TestTokenErrors holds P6.1's first error: Lex's, wherever it stands and whatever stands around it.
func TestTokenErrors(t *testing.T) {
	for s, want := range map[string]api.Errno{
		"@": api.ErrForm, "1+.5": api.ErrForm, `"a`: api.ErrForm, "#N": api.ErrForm, "a!": api.ErrForm, "1.2.3": api.ErrForm, "\t1": api.ErrForm,
		"BM1": api.ErrRange, "a1025": api.ErrRange, "log10": api.ErrRange, "1+)BM1": api.ErrRange, "1 2 BM1": api.ErrRange, "f(1,)BM1": api.ErrRange,
		"A1:BL65": api.ErrLong, "(( A1:BL65": api.ErrLong, `"` + strings.Repeat("x", 256) + `"`: api.ErrLong, "1 1)" + `"` + strings.Repeat("x", 256) + `"`: api.ErrLong,
		"9999999999999999": api.ErrNum, "( 9999999999999999": api.ErrNum,
		strings.Repeat("-", 40) + "BM1": api.ErrRange, "f(" + strings.Repeat("1,", 40) + "BM1)": api.ErrRange, strings.Repeat("1+", 200) + "BM1": api.ErrRange,
		strings.Repeat("1", 513): api.ErrLong, strings.Repeat(" ", 512) + "1": api.ErrLong, strings.Repeat("(", 513): api.ErrLong, strings.Repeat("\xff", 1<<16): api.ErrLong,
	} {
		refused(t, s, want)
	}
	hold(t, strings.Repeat(" ", 511)+"1", num(10000))
	refused(t, strings.Repeat(" ", 512), api.ErrForm)
}

// TestDeep holds P6.1's ErrDeep: the parentheses and signs around, or ahead of, one operand.
func TestDeep(t *testing.T) {
	for _, x := range []struct{ open, closing string }{{"(", ")"}, {"-", ""}, {"+", ""}, {"f(", ")"}, {"f(1,", ")"}, {"f(", ",1)"}, {"(1+", ")"}, {"(", "%)"}, {"(", "*2)"}} {
		for _, inner := range []string{"1", "A1", "x", "f()", "1%%%", "1+2", `"("`, "1%-2%"} {
			s := func(n int) string { return within(n, x.open, inner, x.closing) }
			if u, e := parse.Parse(s(32)); e != api.OK || !u.Good() || u.Nesting() > 32 {
				t.Errorf("Parse(%.80q): %d", s(32), e)
			}
			refused(t, s(33), api.ErrDeep)
			refused(t, s(34), api.ErrDeep)
			refused(t, "1+"+s(33)+"+1", api.ErrDeep)
			refused(t, s(33)+")", api.ErrForm)
			refused(t, s(33)+" 1", api.ErrForm)
			refused(t, s(33)+"+", api.ErrForm)
		}
	}
	for _, x := range []struct {
		s    string
		want api.Errno
	}{
		{within(16, "-(", "1", ")"), api.OK}, {within(16, "-(", "-1", ")"), api.ErrDeep}, {within(16, "-f(", "1", ")"), api.OK}, {within(16, "+f(", "(1)", ")"), api.ErrDeep}, {within(16, "-(", "1", "%)"), api.OK},
		{within(11, "-(+", "1", ")"), api.ErrDeep}, {within(10, "-(+", "--1", ")"), api.OK}, {within(10, "f(-(", "--1", "))"), api.OK}, {within(10, "f(-(", "---1", "))"), api.ErrDeep},
		// Those of another operand don't count.
		{within(32, "-", "1", "") + "+" + within(32, "(", "1", ")"), api.OK}, {"f(" + within(31, "-", "1", "") + "," + within(31, "-", "1", "") + ")", api.OK}, {"f(" + within(31, "-", "1", "") + "," + within(32, "-", "1", "") + ")", api.ErrDeep}, {"f(" + within(32, "-", "1", "") + ",1)", api.ErrDeep},
		{strings.Repeat("-1", 127), api.OK}, {strings.Repeat("+(1)", 100), api.OK}, {strings.Repeat("f(1)&", 80) + "1", api.OK}, {strings.Repeat("--1", 80), api.OK}, {"-" + strings.Repeat("(1)^", 100) + "1", api.OK}, {within(32, "-", "1", "") + "^" + within(32, "-", "1", ""), api.OK},
		// Nothing stands in a Word's parentheses without arguments.
		{within(32, "(", "f()", ")"), api.OK}, {within(32, "f(", "f()", ")"), api.OK}, {within(31, "f(", "-f()", ")"), api.OK}, {within(32, "f(", "", ")"), api.OK}, {within(33, "f(", "", ")"), api.OK}, {within(34, "f(", "", ")"), api.ErrDeep}, {within(32, "-", "f()", ""), api.OK}, {within(33, "-", "f()", ""), api.ErrDeep},
		{within(255, "(", "1", ")"), api.ErrDeep}, {within(170, "f(", "", ")"), api.ErrDeep}, {strings.Repeat("-", 511) + "1", api.ErrDeep}, {strings.Repeat("-", 512), api.ErrForm}, {strings.Repeat("(", 512), api.ErrForm}, {within(256, "(", "", ")"), api.ErrForm}, {strings.Repeat("f(", 256), api.ErrForm},
	} {
		if u, e := parse.Parse(x.s); e != x.want || (len(u) > 0) != (e == api.OK) {
			t.Errorf("Parse(%.120q): %d nodes, %d; want %d", x.s, len(u), e, x.want)
		}
	}
}

// TestManyArguments holds P6.1's ErrLong, which counts the arguments of one Word.
func TestManyArguments(t *testing.T) {
	args := func(n int) string { return strings.Repeat(",1", n)[1:] }
	for _, n := range []int{1, 2, 31, 32} {
		nodes(t, "f("+args(n)+")", n+1)
		nodes(t, "f("+strings.Repeat(",f()", n)[1:]+")", n+1)
		nodes(t, "f("+strings.Repeat(",-(1)", n)[1:]+")", 2*n+1)
	}
	nodes(t, "f("+args(32)+")+f("+args(32)+")", 67)
	nodes(t, "f(f("+args(32)+"),"+args(31)+")", 65)
	nodes(t, "f("+args(31)+",f("+args(32)+"))", 65)
	for _, n := range []int{33, 34, 64, 65, 100, 254} {
		refused(t, "f("+args(n)+")", api.ErrLong)
		refused(t, "f("+args(n)+",)", api.ErrForm)
		refused(t, "f("+args(n)+"))", api.ErrForm)
		refused(t, "f("+args(n), api.ErrForm)
	}
	refused(t, "f("+args(33)+")+f(1)", api.ErrLong)
	refused(t, "f(1)+f("+args(33)+")", api.ErrLong)
	refused(t, "f(1,g("+args(33)+"),2)", api.ErrLong)
	refused(t, "f("+args(32)+",g())", api.ErrLong)
}

// TestManyNodes holds P6.1's ErrFull.
func TestManyNodes(t *testing.T) {
	nodes(t, strings.Repeat("1+", 127)+"1", 255)
	nodes(t, "-"+strings.Repeat("1+", 127)+"1", 256)
	nodes(t, "+"+strings.Repeat("1+", 127)+"1", 255)
	nodes(t, "((("+strings.Repeat("1+", 127)+"1)))%", 256)
	nodes(t, "1"+strings.Repeat("%", 255), 256)
	nodes(t, strings.Repeat("f(", 31)+strings.Repeat("1&", 112)+"1"+strings.Repeat(")", 31), 256)
	for _, s := range []string{strings.Repeat("1+", 128) + "1", "--" + strings.Repeat("1+", 127) + "1", strings.Repeat("1+", 127) + "1%%", "1" + strings.Repeat("%", 256), "1" + strings.Repeat("%", 511), strings.Repeat("1+", 255) + "1", strings.Repeat("f(", 32) + strings.Repeat("1&", 112) + "1" + strings.Repeat(")", 32)} {
		refused(t, s, api.ErrFull)
		if len(s) < 512 {
			refused(t, s+")", api.ErrForm)
		}
	}
}

// TestOrderOfErrors holds P6.1's order, where several apply.
func TestOrderOfErrors(t *testing.T) {
	deep, long, wide := strings.Repeat("-", 33)+"1", "f("+strings.Repeat("1,", 32)+"1)", strings.Repeat("+1", 128)
	refused(t, deep, api.ErrDeep)
	refused(t, long, api.ErrLong)
	refused(t, "1"+wide, api.ErrFull)
	refused(t, long+wide, api.ErrLong)
	refused(t, "1"+wide+"+"+long, api.ErrLong)
	refused(t, deep+wide, api.ErrDeep)
	refused(t, "1"+wide+"+"+deep, api.ErrDeep)
	refused(t, long+"+"+deep, api.ErrDeep)
	refused(t, deep+"+"+long, api.ErrDeep)
	refused(t, deep+"+"+long+wide, api.ErrDeep)
	refused(t, long+wide+"+"+deep, api.ErrDeep)
	for _, s := range []string{deep, long, "1" + wide, long + wide, deep + wide, deep + "+" + long + wide, long + wide + "+" + deep} {
		refused(t, s+"+", api.ErrForm)
		refused(t, ")+"+s, api.ErrForm)
		refused(t, s+" BM1", api.ErrRange)
		refused(t, s+")+A1:BL65", api.ErrLong)
		refused(t, s+" 9999999999999999", api.ErrNum)
	}
}

// TestNodesAreNew holds that no two lists of answers share memory.
func TestNodesAreNew(t *testing.T) {
	const s = "f(1,2,g(A1,B1),-3)+h(4%,5)*A1"
	one, _ := parse.Parse(s)
	two, _ := parse.Parse(s)
	refs, calls := one.Refs(), one.Calls()
	for i := range one {
		kids := one[i].Kids
		_ = append(kids, -9)
		for j := range kids {
			kids[j] += 1000
		}
	}
	for i := range one {
		for j := range one[i].Kids {
			one[i].Kids[j] -= 1000
		}
	}
	if !same(one, two) {
		t.Errorf("kids share memory: %s; want %s", drawn(one), drawn(two))
	}
	refs[0].Sheet, calls[0] = "X", "X"
	_ = append(refs[:1], addr.Full{Sheet: "Y"})
	_ = append(calls[:1], "Y")
	if !same(one, two) || one.Refs()[0].Sheet != "" || one.Calls()[0] != "G" {
		t.Errorf("what was told is the tree's own: %s, %v, %v", drawn(one), one.Refs(), one.Calls())
	}
	for i := range one {
		one[i] = num(0)
	}
	if again, _ := parse.Parse(s); !same(again, two) {
		t.Errorf("%s; want %s", drawn(again), drawn(two))
	}
}
