package nums_test

import (
	"math/big"
	"strings"
	"testing"

	"lattice/fixed"
	"lattice/nums"
	"lattice/value"
)

// enough ends a test that goes through many values, once it has told that some of them fail.
func enough(t *testing.T) {
	t.Helper()
	if t.Failed() {
		t.FailNow()
	}
}

// bin holds what an operator tells.
func bin(t *testing.T, op string, a, b, want value.Value) {
	t.Helper()
	if v, ok := nums.Bin(op, a, b); v != want || !ok {
		t.Errorf("Bin(%q, %.40v, %.40v): %.40v, %v; want %.40v", op, a, b, v, ok, want)
	}
}

// TestArithmetic holds P9.1's + - * / ^ against exact arithmetic, at every pair of the edges.
func TestArithmetic(t *testing.T) {
	for op, exact := range operators() {
		for _, a := range edges() {
			for _, b := range edges() {
				bin(t, op, num(a), num(b), exact.of(a, b))
			}
			enough(t)
		}
	}
}

// TestArithmeticByHand has P9.1's answers written out: what is read is a number, or an error in signs.
func TestArithmeticByHand(t *testing.T) {
	for _, x := range []struct{ a, op, b, want string }{
		{"1", "+", "2", "3"},
		{"1.5", "+", "-0.5", "1"},
		{"900000000000000", "+", "0.0001", "#NUM!"},
		{"-900000000000000", "+", "-0.0001", "#NUM!"},
		{"1", "-", "2", "-1"},
		{"-900000000000000", "-", "0.0001", "#NUM!"},
		{"1.5", "*", "1.5", "2.25"},
		{"0.0001", "*", "0.5", "0.0001"},
		{"0.0001", "*", "0.4999", "0"},
		{"900000000000000", "*", "2", "#NUM!"},
		{"1", "/", "3", "0.3333"},
		{"2", "/", "-3", "-0.6667"},
		{"1", "/", "0", "#DIV/0!"},
		{"0", "/", "0", "#DIV/0!"},
		{"900000000000000", "/", "0.0001", "#NUM!"},
		{"0", "/", "7", "0"},
		{"2", "^", "-2", "0.25"},
		{"2", "^", "10", "1024"},
		{"2", "^", "1", "2"},
		{"-2", "^", "2", "4"},
		{"-2", "^", "3", "-8"},
		{"-2", "^", "-1", "-0.5"},
		{"3", "^", "-1", "0.3333"},
		// To the power of 0.
		{"0", "^", "0", "1"},
		{"-7.5", "^", "0", "1"},
		{"900000000000000", "^", "0", "1"},
		// Of 0.
		{"0", "^", "1", "0"},
		{"0", "^", "1000", "0"},
		{"0", "^", "-1", "#DIV/0!"},
		{"0", "^", "-1000", "#DIV/0!"},
		// Up to 1000 either way, and no farther.
		{"1", "^", "1000", "1"},
		{"1", "^", "-1000", "1"},
		{"-1", "^", "999", "-1"},
		{"-1", "^", "-1000", "1"},
		{"1", "^", "1001", "#NUM!"},
		{"1", "^", "-1001", "#NUM!"},
		{"1", "^", "1000.0001", "#NUM!"},
		{"1", "^", "-1000.0001", "#NUM!"},
		{"1", "^", "900000000000000", "#NUM!"},
		{"1", "^", "-900000000000000", "#NUM!"},
		{"0", "^", "-1001", "#NUM!"},
		// Not whole.
		{"4", "^", "0.5", "#NUM!"},
		{"4", "^", "-0.5", "#NUM!"},
		{"4", "^", "0.0001", "#NUM!"},
		{"4", "^", "1.9999", "#NUM!"},
		{"0", "^", "-0.5", "#NUM!"},
		// Each product is rounded: 0.5 falls to 0.0001 and stays there, 0.4 falls to 0, and 1.0001 grows by no more than itself.
		{"0.5", "^", "4", "0.0625"},
		{"0.5", "^", "5", "0.0313"},
		{"0.5", "^", "6", "0.0157"},
		{"0.5", "^", "7", "0.0079"},
		{"0.5", "^", "20", "0.0001"},
		{"0.5", "^", "1000", "0.0001"},
		{"-0.5", "^", "999", "-0.0001"},
		{"0.5", "^", "-6", "63.6943"},
		{"0.5", "^", "-1000", "10000"},
		{"0.4", "^", "10", "0.0001"},
		{"0.4", "^", "11", "0"},
		{"0.4", "^", "-10", "10000"},
		{"0.4", "^", "-11", "#DIV/0!"},
		{"1.0001", "^", "1000", "1.1"},
		{"1.0001", "^", "-1000", "0.9091"},
		{"0.0071", "^", "2", "0.0001"},
		{"0.007", "^", "2", "0"},
		// Too great: a power below 0 tells the code of the one above.
		{"10", "^", "14", "100000000000000"},
		{"10", "^", "-14", "0"},
		{"10", "^", "15", "#NUM!"},
		{"10", "^", "-15", "#NUM!"},
		{"2", "^", "49", "562949953421312"},
		{"2", "^", "50", "#NUM!"},
		{"-2", "^", "49", "-562949953421312"},
		{"-2", "^", "51", "#NUM!"},
		{"2", "^", "1000", "#NUM!"},
		{"2", "^", "-1000", "#NUM!"},
		{"30000000", "^", "2", "900000000000000"},
		{"30000000.0001", "^", "2", "#NUM!"},
		{"900000000000000", "^", "1", "900000000000000"},
		{"900000000000000", "^", "-1", "0"},
		{"0.0001", "^", "-1", "10000"},
	} {
		bin(t, x.op, value.Read(x.a), value.Read(x.b), value.Read(x.want))
	}
}

// TestArithmeticGuises holds that both are taken as numbers, and that the first error is told, from left to right.
func TestArithmeticGuises(t *testing.T) {
	for op, exact := range operators() {
		for _, a := range guises() {
			for _, b := range guises() {
				bin(t, op, a.v, b.v, firstFail(exact.of(a.n, b.n), a, b))
			}
			enough(t)
		}
	}
}

// TestJoin holds P9.1's &.
func TestJoin(t *testing.T) {
	long := func(n int) string { return strings.Repeat("y", n) }
	shown := []struct {
		v value.Value
		s string
	}{
		{value.Value{}, ""}, {num(0), "0"}, {num(15000), "1.5"}, {num(-1), "-0.0001"}, {num(most), "900000000000000"}, {truth(true), "TRUE"}, {truth(false), "FALSE"},
		{text(""), ""}, {text(" 2 "), " 2 "}, {text("#N/A"), "#N/A"}, {text("\xff\x00"), "\xff\x00"}, {text("ä"), "ä"}, {text(long(200)), long(200)},
	}
	fails := []guise{{fail(value.NA), 0, value.NA}, {fail(value.Cycle), 0, value.Cycle}}
	for _, v := range bads() {
		fails = append(fails, guise{v, 0, value.Val})
	}
	for _, a := range shown {
		for _, b := range shown {
			want := text(a.s + b.s)
			if len(a.s)+len(b.s) > 255 {
				want = fail(value.Val)
			}
			bin(t, "&", a.v, b.v, want)
		}
		for _, b := range fails {
			bin(t, "&", a.v, b.v, fail(b.f))
			bin(t, "&", b.v, a.v, fail(b.f))
		}
	}
	for _, a := range fails {
		for _, b := range fails {
			bin(t, "&", a.v, b.v, fail(a.f))
		}
	}
	bin(t, "&", text("1"), text("2"), text("12"))
	bin(t, "&", num(10000), num(20000), text("12"))
	bin(t, "&", text("ab"), text("c"), text("abc"))
	bin(t, "&", text(long(255)), text(""), text(long(255)))
	bin(t, "&", text(long(100)), text(long(155)), text(long(255)))
	bin(t, "&", text(long(100)), text(long(156)), fail(value.Val))
	bin(t, "&", text(long(255)), text(long(255)), fail(value.Val))
	bin(t, "&", text(long(255)), fail(value.Link), fail(value.Link))
}

// comparisons are the operators that compare, each with the orders at which it is true: - of those ahead, 0 of the same, + of those behind.
func comparisons() map[string]string {
	return map[string]string{"=": "0", "<>": "-+", "<": "-", "<=": "-0", ">": "+", ">=": "0+"}
}

// among: is an order, -1, 0 or 1, one of those?
func among(order int, orders string) value.Value {
	return truth(strings.Contains(orders, "-0+"[order+1:order+2]))
}

// compare holds all six comparisons of two values, whose order is -1, 0 or 1.
func compare(t *testing.T, a, b value.Value, order int) {
	t.Helper()
	for op, orders := range comparisons() {
		bin(t, op, a, b, among(order, orders))
	}
}

// TestCompare holds P9.1's comparisons, of values that stand in order, groups of the same ones in brackets.
func TestCompare(t *testing.T) {
	groups := [][]value.Value{
		{num(-most)}, {num(-10000)}, {num(-1)}, {num(0)}, {num(1)}, {num(10000)}, {num(most)},
		{text("")}, {text(" 2")}, {text("10")}, {text("9")}, {text("a"), text("A")}, {text("ab"), text("Ab"), text("AB")}, {text("b"), text("B")}, {text("false"), text("FALSE")}, {text("\xff")},
		{truth(false)}, {truth(true)},
	}
	for i, these := range groups {
		for k, those := range groups {
			order := 0
			if i < k {
				order = -1
			} else if i > k {
				order = 1
			}
			for _, a := range these {
				for _, b := range those {
					compare(t, a, b, order)
				}
			}
		}
	}
	blank := value.Value{}
	compare(t, blank, blank, 0)
	for v, order := range map[value.Value]int{num(0): 0, num(1): -1, num(-1): 1, text(""): 0, text("x"): -1, truth(false): 0, truth(true): -1} {
		compare(t, blank, v, order)
		compare(t, v, blank, -order)
	}
}

// TestCompareFails holds that a comparison tells the first error.
func TestCompareFails(t *testing.T) {
	for op := range comparisons() {
		for f := value.Div0; f < value.Fails; f++ {
			for _, v := range []value.Value{{}, num(0), text("x"), text(f.Text()), truth(true)} {
				bin(t, op, fail(f), v, fail(f))
				bin(t, op, v, fail(f), fail(f))
			}
			for g := value.Div0; g < value.Fails; g++ {
				bin(t, op, fail(f), fail(g), fail(f))
			}
		}
		for _, v := range bads() {
			bin(t, op, v, v, fail(value.Val))
			bin(t, op, v, num(0), fail(value.Val))
			bin(t, op, text("x"), v, fail(value.Val))
			bin(t, op, v, fail(value.NA), fail(value.Val))
			bin(t, op, fail(value.NA), v, fail(value.NA))
		}
	}
}

// TestNoOperator holds that nothing else is an operator between two, whatever stands beside it.
func TestNoOperator(t *testing.T) {
	for _, op := range []string{"", " ", "%", "==", "=<", "=>", "><", "!=", "<<", ">>", "<>=", "<=>", "+-", "--", "**", "//", "&&", "< ", " <", "+ ", "+\x00", "^^", "!", "(", ",", "POWER", "MOD", "-1", "\xff", "−", strings.Repeat("+", 1<<20)} {
		for _, v := range []value.Value{{}, num(10000), text("x"), fail(value.NA), {Kind: value.Kinds}} {
			if got, ok := nums.Bin(op, v, v); ok || got != (value.Value{}) {
				t.Errorf("Bin(%.40q): %v, %v", op, got, ok)
			}
		}
	}
}

// TestSigns holds P9.1's Neg and Pct: at the edges, and of values of every kind.
func TestSigns(t *testing.T) {
	for _, a := range edges() {
		if v := nums.Neg(num(a)); v != num(-a) {
			t.Errorf("Neg of %d: %v", a, v)
		}
		if v, want := nums.Pct(num(a)), told(rounded(big.NewInt(int64(a)), big.NewInt(100)), value.None); v != want {
			t.Errorf("Pct of %d: %v; want %v", a, v, want)
		}
	}
	for _, g := range guises() {
		neg, pct := firstFail(num(-g.n), g), firstFail(told(rounded(big.NewInt(int64(g.n)), big.NewInt(100)), value.None), g)
		if v, w := nums.Neg(g.v), nums.Pct(g.v); v != neg || w != pct {
			t.Errorf("Neg, Pct of %.40v: %v, %v; want %v, %v", g.v, v, w, neg, pct)
		}
	}
	for n, want := range map[fixed.Num][2]fixed.Num{
		0: {0, 0}, 10000: {-10000, 100}, -10000: {10000, -100}, 49: {-49, 0}, 50: {-50, 1}, -49: {49, 0}, -50: {50, -1}, 149: {-149, 1}, 150: {-150, 2},
		most: {-most, 90000000000000000}, -most: {most, -90000000000000000}, most - 1: {1 - most, 90000000000000000},
	} {
		if v, w := nums.Neg(num(n)), nums.Pct(num(n)); v != num(want[0]) || w != num(want[1]) {
			t.Errorf("Neg, Pct of %d: %v, %v", n, v, w)
		}
	}
}

// FuzzBin looks for values at which an operator strays from layer 3 and exact arithmetic, or panics (P1).
func FuzzBin(f *testing.F) {
	f.Add("+", "1.5", " 2 ")
	f.Add("^", "0.5", "-1000")
	f.Add("&", "x", "#N/A")
	f.Add("<=", "a", "B")
	f.Add("%", "", "true")
	f.Fuzz(func(t *testing.T, op, s, u string) {
		a, b := value.Read(s), value.Read(u)
		for _, x := range [][2]value.Value{{a, b}, {b, a}, {value.T(s), b}, {{}, a}} {
			want, ok := modelled(op, x[0], x[1])
			if v, o := nums.Bin(op, x[0], x[1]); v != want || o != ok {
				t.Errorf("Bin(%q, %v, %v): %v, %v; want %v, %v", op, x[0], x[1], v, o, want, ok)
			}
		}
	})
}

// modelled is what an operator must tell by layer 3 and exact arithmetic.
func modelled(op string, a, b value.Value) (value.Value, bool) {
	if exact := operators()[op]; exact != nil {
		n, f := a.AsNum()
		m, g := b.AsNum()
		return firstFail(exact.of(n, m), guise{f: f}, guise{f: g}), true
	}
	if op == "&" {
		s, f := a.AsText()
		u, g := b.AsText()
		return firstFail(value.T(s+u), guise{f: f}, guise{f: g}), true
	}
	orders, ok := comparisons()[op]
	if !ok {
		return value.Value{}, false
	}
	order, f := value.Order(a, b)
	return firstFail(among(order, orders), guise{f: f}), true
}
