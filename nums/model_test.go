package nums_test

import (
	"math"
	"math/big"

	"lattice/api"
	"lattice/fixed"
	"lattice/value"
)

const most = fixed.Num(api.MaxNum)

// Values written out field by field, so that they lean on no call.
func num(n fixed.Num) value.Value   { return value.Value{Kind: value.Number, Num: n} }
func text(s string) value.Value     { return value.Value{Kind: value.Text, Text: s} }
func truth(b bool) value.Value      { return value.Value{Kind: value.Bool, True: b} }
func fail(f value.Fail) value.Value { return value.Value{Kind: value.Error, Fail: f} }

var scale = big.NewInt(api.Scale)

// one and two are calls of one number, and of two, by exact arithmetic on their parts.
type (
	one func(a *big.Int) (*big.Int, value.Fail)
	two func(a, b *big.Int) (*big.Int, value.Fail)
)

// ones are the functions of one number; EVEN, which tells none, is not among them.
func ones() map[string]one {
	return map[string]one{
		"ABS":   func(a *big.Int) (*big.Int, value.Fail) { return new(big.Int).Abs(a), value.None },
		"SIGN":  func(a *big.Int) (*big.Int, value.Fail) { return times(big.NewInt(int64(a.Sign())), scale), value.None },
		"INT":   func(a *big.Int) (*big.Int, value.Fail) { return times(down(a, scale), scale), value.None },
		"TRUNC": func(a *big.Int) (*big.Int, value.Fail) { return times(new(big.Int).Quo(a, scale), scale), value.None },
		"SQRT":  exactSqrt,
		"FACT":  exactFact,
	}
}

// twos are the functions of two numbers.
func twos() map[string]two {
	return map[string]two{
		"ROUND":    exactRound,
		"ROUNDUP":  exactRoundUp,
		"MOD":      exactMod,
		"QUOTIENT": exactQuotient,
		"POWER":    exactPower,
		"GCD":      exactDivisor,
		"RATIO":    exactRatio,
	}
}

// operators are those between two numbers.
func operators() map[string]two {
	return map[string]two{
		"+": func(a, b *big.Int) (*big.Int, value.Fail) { return new(big.Int).Add(a, b), value.None },
		"-": func(a, b *big.Int) (*big.Int, value.Fail) { return new(big.Int).Sub(a, b), value.None },
		"*": func(a, b *big.Int) (*big.Int, value.Fail) { return rounded(times(a, b), scale), value.None },
		"/": func(a, b *big.Int) (*big.Int, value.Fail) {
			if b.Sign() == 0 {
				return nil, value.Div0
			}
			return rounded(times(a, scale), b), value.None
		},
		"^": exactPower,
	}
}

// known are the names of all functions of this layer, as the document's table has them.
func known() []string {
	return []string{"ABS", "SIGN", "INT", "TRUNC", "ROUND", "ROUNDUP", "MOD", "QUOTIENT", "POWER", "SQRT", "GCD", "FACT", "EVEN", "RATIO"}
}

// takes is how many arguments one of them has.
func takes(name string) int {
	if twos()[name] != nil {
		return 2
	}
	return 1
}

func times(x, y *big.Int) *big.Int { return new(big.Int).Mul(x, y) }

// down is the greatest whole number that isn't above x divided by y.
func down(x, y *big.Int) *big.Int {
	if y.Sign() < 0 {
		x, y = new(big.Int).Neg(x), new(big.Int).Neg(y)
	}
	return new(big.Int).Div(x, y) // of y above 0 this is the floor
}

// rounded is x divided by y, to the nearest whole number, of two as near the one farther from 0.
func rounded(x, y *big.Int) *big.Int {
	sign := big.NewInt(int64(x.Sign() * y.Sign()))
	x, y = new(big.Int).Abs(x), new(big.Int).Abs(y)
	up := new(big.Int).Add(times(x, big.NewInt(2)), y)
	return times(up.Quo(up, times(y, big.NewInt(2))), sign)
}

func tooGreat(n *big.Int) bool { return n.CmpAbs(big.NewInt(api.MaxNum)) > 0 }

// wholes is a in whole numbers; false, if something is left.
func wholes(a *big.Int) (*big.Int, bool) {
	n, rest := new(big.Int).QuoRem(a, scale, new(big.Int))
	return n, rest.Sign() == 0
}

// within is a as a whole number from -limit to limit; false, if it is none.
func within(a *big.Int, limit int64) (int64, bool) {
	n, ok := wholes(a)
	if !ok || n.CmpAbs(big.NewInt(limit)) > 0 {
		return 0, false
	}
	return n.Int64(), true
}

func exactPower(a, b *big.Int) (*big.Int, value.Fail) {
	n, ok := within(b, 1000)
	switch {
	case !ok:
		return nil, value.Num
	case n == 0:
		return scale, value.None
	case n < 0:
		all, f := exactPower(a, new(big.Int).Neg(b))
		if f == value.None && all.Sign() == 0 {
			return nil, value.Div0
		}
		if f != value.None {
			return nil, f
		}
		return rounded(times(scale, scale), all), value.None
	}
	all := a
	for range n - 1 {
		if all = rounded(times(all, a), scale); tooGreat(all) {
			return nil, value.Num
		}
	}
	return all, value.None
}

func exactMod(a, b *big.Int) (*big.Int, value.Fail) {
	if b.Sign() == 0 {
		return nil, value.Div0
	}
	return new(big.Int).Sub(a, times(down(a, b), b)), value.None
}

func exactQuotient(a, b *big.Int) (*big.Int, value.Fail) {
	if b.Sign() == 0 {
		return nil, value.Div0
	}
	return times(new(big.Int).Quo(a, b), scale), value.None
}

// stepOf is the step to which p places round, in parts; nil of more than three, which round nothing; false, if there are no such places.
func stepOf(p *big.Int) (*big.Int, bool) {
	n, ok := within(p, 15)
	if !ok || n > 3 {
		return nil, ok
	}
	return new(big.Int).Exp(big.NewInt(10), big.NewInt(4-n), nil), true
}

func exactRound(a, p *big.Int) (*big.Int, value.Fail) {
	step, ok := stepOf(p)
	if !ok {
		return nil, value.Num
	}
	if step == nil {
		return a, value.None
	}
	return times(rounded(a, step), step), value.None
}

// exactRoundUp goes step by step from the multiple that isn't farther from 0.
func exactRoundUp(a, p *big.Int) (*big.Int, value.Fail) {
	step, ok := stepOf(p)
	if !ok {
		return nil, value.Num
	}
	if step == nil {
		return a, value.None
	}
	up := times(new(big.Int).Quo(a, step), step)
	for up.CmpAbs(a) < 0 {
		up.Add(up, times(step, big.NewInt(int64(a.Sign()))))
	}
	return up, value.None
}

func exactSqrt(a *big.Int) (*big.Int, value.Fail) {
	if a.Sign() < 0 {
		return nil, value.Num
	}
	n := times(a, big.NewInt(4*api.Scale)) // twice the root, to which a half is added: no half is ever met
	n.Sqrt(n).Add(n, big.NewInt(1))
	return n.Quo(n, big.NewInt(2)), value.None
}

func exactDivisor(a, b *big.Int) (*big.Int, value.Fail) {
	n, ok := wholes(a)
	m, also := wholes(b)
	if !ok || !also || a.Sign() < 0 || b.Sign() < 0 {
		return nil, value.Num
	}
	return times(new(big.Int).GCD(nil, nil, n, m), scale), value.None
}

func exactFact(a *big.Int) (*big.Int, value.Fail) {
	n, ok := wholes(a)
	if !ok || a.Sign() < 0 || n.Cmp(big.NewInt(100)) > 0 {
		return nil, value.Num
	}
	return times(new(big.Int).MulRange(1, n.Int64()), scale), value.None
}

func exactRatio(a, b *big.Int) (*big.Int, value.Fail) {
	f := (float64(a.Int64()) / api.Scale) / (float64(b.Int64()) / api.Scale)
	if math.IsNaN(f) || math.IsInf(f, 0) {
		return nil, value.Div0
	}
	r := new(big.Rat).SetFloat64(f)
	return rounded(times(r.Num(), scale), r.Denom()), value.None
}

// exactEven is the one function that tells no number.
func exactEven(a fixed.Num) value.Value {
	n, ok := wholes(big.NewInt(int64(a)))
	if !ok {
		return fail(value.Num)
	}
	return truth(n.Bit(0) == 0)
}

// told is the value of an exact number of parts.
func told(n *big.Int, f value.Fail) value.Value {
	if f != value.None {
		return fail(f)
	}
	if tooGreat(n) {
		return fail(value.Num)
	}
	return num(fixed.Num(n.Int64()))
}

func (do one) of(a fixed.Num) value.Value { return told(do(big.NewInt(int64(a)))) }

func (do two) of(a, b fixed.Num) value.Value {
	return told(do(big.NewInt(int64(a)), big.NewInt(int64(b))))
}

// edges are good numbers at which a sign, a half, a whole number, a limit or a power turns.
func edges() []fixed.Num {
	up := []fixed.Num{1, 2, 3, 7, 99, 100, 4999, 5000, 5001, 9999, 10001, 11000, 12345, 12350, 14999, 15000, 15001, 19999, 20001, 25000,
		37500, 10100, 1250000, 1 << 31, 1 << 32, 94868329805, 94868329806, 965489384, 965489385, 300000000000, 300000000001,
		1 << 53, 1 << 62, 4499999999999999999, 4500000000000000000, 4999999999999999999, 5000000000000000000, 8999999999999995000,
		most - 20000, most - 10001, most - 10000, most - 9999, most - 2, most - 1, most}
	for n := range fixed.Num(22) {
		up = append(up, n*api.Scale)
	}
	for _, n := range []fixed.Num{49, 50, 64, 100, 360, 997, 999, 1000, 1001, 65536, 1 << 40, 899999999999999} {
		up = append(up, n*api.Scale)
	}
	for step := fixed.Num(10); step < most/10; step *= 10 {
		up = append(up, step-1, step, step+1, 5*step)
	}
	var all []fixed.Num
	for _, a := range up {
		all = append(all, a, -a)
	}
	return all
}

// A guise is a value, and what it is as a number.
type guise struct {
	v value.Value
	n fixed.Num
	f value.Fail
}

// bads are values that aren't good.
func bads() []value.Value {
	long := make([]byte, 256)
	return []value.Value{
		{Kind: -1}, {Kind: value.Kinds}, {Kind: math.MaxInt}, {Kind: math.MinInt, Num: 10000, Text: "1", True: true, Fail: value.NA},
		{Num: 10000}, {Text: "1"}, {True: true}, {Fail: value.NA},
		num(most + 1), num(-most - 1), num(math.MaxInt64), num(math.MinInt64), text(string(long)),
		fail(value.None), fail(value.Fails), fail(-1),
		{Kind: value.Number, Num: 10000, Text: "1"}, {Kind: value.Text, Text: "1", Num: 10000}, {Kind: value.Bool, True: true, Fail: value.NA}, {Kind: value.Error, Fail: value.NA, Num: 1},
	}
}

// guises are values of every kind.
func guises() []guise {
	all := []guise{
		{value.Value{}, 0, value.None},
		{num(0), 0, value.None},
		{num(20000), 20000, value.None},
		{num(-15000), -15000, value.None},
		{num(most), most, value.None},
		{truth(false), 0, value.None},
		{truth(true), 10000, value.None},
		{text("2"), 20000, value.None},
		{text("  -0.5 "), -5000, value.None},
		{text("003"), 30000, value.None},
		{text(""), 0, value.Val},
		{text(" "), 0, value.Val},
		{text("x"), 0, value.Val},
		{text("1 2"), 0, value.Val},
		{text("TRUE"), 0, value.Val},
		{text("#N/A"), 0, value.Val},
		{text("900000000000001"), 0, value.Val},
	}
	for f := value.Div0; f < value.Fails; f++ {
		all = append(all, guise{fail(f), 0, f})
	}
	for _, v := range bads() {
		all = append(all, guise{v, 0, value.Val})
	}
	return all
}

// firstFail is the first error of all, or what is told if there is none.
func firstFail(told value.Value, all ...guise) value.Value {
	for _, g := range all {
		if g.f != value.None {
			return fail(g.f)
		}
	}
	return told
}
