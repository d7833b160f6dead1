package fixed_test

import (
	"math"
	"math/big"
	"regexp"
	"strconv"
	"strings"
	"testing"

	"lattice/api"
	"lattice/fixed"
)

const most = fixed.Num(api.MaxNum)

// two is a call of two numbers, with what it must tell by exact arithmetic on their parts.
type two struct {
	name string
	do   func(a, b fixed.Num) (fixed.Num, api.Errno)
	want func(a, b *big.Int) (*big.Int, api.Errno)
}

var scale = big.NewInt(api.Scale)

func twos() []two {
	return []two{
		{"Add", fixed.Add, func(a, b *big.Int) (*big.Int, api.Errno) { return new(big.Int).Add(a, b), api.OK }},
		{"Sub", fixed.Sub, func(a, b *big.Int) (*big.Int, api.Errno) { return new(big.Int).Sub(a, b), api.OK }},
		{"Mul", fixed.Mul, func(a, b *big.Int) (*big.Int, api.Errno) {
			return rounded(new(big.Int).Mul(a, b), scale), api.OK
		}},
		{"Div", fixed.Div, func(a, b *big.Int) (*big.Int, api.Errno) {
			if b.Sign() == 0 {
				return nil, api.ErrZero
			}
			return rounded(new(big.Int).Mul(a, scale), b), api.OK
		}},
		{"Mod", fixed.Mod, func(a, b *big.Int) (*big.Int, api.Errno) {
			if b.Sign() == 0 {
				return nil, api.ErrZero
			}
			times := down(a, b)
			return new(big.Int).Sub(a, times.Mul(times, b)), api.OK
		}},
	}
}

// down is the greatest whole number that isn't above x divided by y.
func down(x, y *big.Int) *big.Int {
	if y.Sign() < 0 {
		x, y = new(big.Int).Neg(x), new(big.Int).Neg(y)
	}
	return new(big.Int).Div(x, y) // of y above 0 this is the floor
}

// rounded is x divided by y, to the nearest whole number, of two as near the one farther from 0.
func rounded(x, y *big.Int) *big.Int {
	sign := x.Sign() * y.Sign()
	x, y = new(big.Int).Abs(x), new(big.Int).Abs(y)
	up := new(big.Int).Add(new(big.Int).Lsh(x, 1), y)
	up.Div(up, new(big.Int).Lsh(y, 1))
	return up.Mul(up, big.NewInt(int64(sign)))
}

func good(a fixed.Num) bool { return a >= -most && a <= most }

// told is what a call must answer whose exact result is n.
func told(n *big.Int, e api.Errno) (fixed.Num, api.Errno) {
	if e != api.OK {
		return 0, e
	}
	if !n.IsInt64() || !good(fixed.Num(n.Int64())) {
		return 0, api.ErrNum
	}
	return fixed.Num(n.Int64()), api.OK
}

func part(a fixed.Num) *big.Int { return big.NewInt(int64(a)) }

// edges are numbers at which a sign, a half, a limit or a width of an integer turns, good or not.
func edges() []fixed.Num {
	up := []fixed.Num{0, 1, 2, 3, 4, 5, 6, 7, 9, 10, 11, 49, 50, 51, 99, 100, 333, 4999, 5000, 5001, 9999, 10000, 10001,
		12345, 12350, 14999, 15000, 15001, 19999, 20000, 25000, 30000, 70000, 99999, 100000, 1250000,
		math.MaxUint16, math.MaxInt32, math.MaxUint32, math.MaxUint32 + 1, 3000000000000, 94868329805, 94868329806,
		300000000000000, 948683298050513, 948683298050514, 900000000000000, 922337203685477, 922337203685478,
		1 << 53, 1 << 62, 4000000000000000000, 4499999999999999999, 4500000000000000000, 4500000000000000001,
		4999999999999999999, 5000000000000000000, 5000000000000000001, 8999999999999990000, 8999999999999995000,
		8999999999999994999, 8500000000000000000, 8499999999999999999,
		most - 10001, most - 10000, most - 9999, most - 5000, most - 2, most - 1, most, most + 1, most + 2, most + 10000,
		math.MaxInt64 - 1, math.MaxInt64}
	for ten := fixed.Num(10); ten < most/10; ten *= 10 {
		up = append(up, ten-1, ten, ten+1, 5*ten-1, 5*ten, 5*ten+1)
	}
	all := []fixed.Num{math.MinInt64}
	for _, a := range up {
		all = append(all, a, -a)
	}
	return all
}

// TestPairs holds P1.1 and P1.2 against exact arithmetic, at every pair of the edges.
func TestPairs(t *testing.T) {
	for _, x := range twos() {
		for _, a := range edges() {
			for _, b := range edges() {
				want, e := fixed.Num(0), api.ErrNum
				if good(a) && good(b) {
					want, e = told(x.want(part(a), part(b)))
				}
				if n, f := x.do(a, b); n != want || f != e {
					t.Fatalf("%s(%d, %d): %d, %d; want %d, %d", x.name, a, b, n, f, want, e)
				}
			}
		}
	}
}

// TestPairsByHand has P1.1's and P1.2's answers written out, so that it leans on no arithmetic but a reader's.
func TestPairsByHand(t *testing.T) {
	for _, x := range []struct {
		name    string
		do      func(a, b fixed.Num) (fixed.Num, api.Errno)
		a, b, n fixed.Num
		e       api.Errno
	}{
		{"Add", fixed.Add, 15000, -5000, 10000, api.OK},
		{"Add", fixed.Add, most, 0, most, api.OK},
		{"Add", fixed.Add, most, -most, 0, api.OK},
		{"Add", fixed.Add, most - 1, 1, most, api.OK},
		{"Add", fixed.Add, -most, -1, 0, api.ErrNum},
		{"Add", fixed.Add, most, most, 0, api.ErrNum}, // in 64 bits this wraps round to a good number
		{"Add", fixed.Add, -most, -most, 0, api.ErrNum},
		{"Add", fixed.Add, most + 1, -1, 0, api.ErrNum},
		{"Add", fixed.Add, -1, most + 1, 0, api.ErrNum},
		{"Sub", fixed.Sub, 1, 2, -1, api.OK},
		{"Sub", fixed.Sub, -most, -most, 0, api.OK},
		{"Sub", fixed.Sub, most, -most, 0, api.ErrNum},
		{"Sub", fixed.Sub, most, -1, 0, api.ErrNum},
		{"Sub", fixed.Sub, most + 1, 1, 0, api.ErrNum},
		{"Sub", fixed.Sub, -1, math.MinInt64, 0, api.ErrNum},
		{"Mul", fixed.Mul, 15000, 15000, 22500, api.OK},
		{"Mul", fixed.Mul, 1, 5000, 1, api.OK},
		{"Mul", fixed.Mul, 1, -5000, -1, api.OK},
		{"Mul", fixed.Mul, -1, -5000, 1, api.OK},
		{"Mul", fixed.Mul, -1, 4999, 0, api.OK},
		{"Mul", fixed.Mul, most, -10000, -most, api.OK},
		{"Mul", fixed.Mul, most, 10001, 0, api.ErrNum},
		{"Mul", fixed.Mul, -most, most, 0, api.ErrNum},
		{"Mul", fixed.Mul, most + 1, 0, 0, api.ErrNum},
		{"Div", fixed.Div, 10000, 30000, 3333, api.OK},
		{"Div", fixed.Div, 20000, 30000, 6667, api.OK},
		{"Div", fixed.Div, 20000, -30000, -6667, api.OK},
		{"Div", fixed.Div, 1, 20000, 1, api.OK},
		{"Div", fixed.Div, -1, 20000, -1, api.OK},
		{"Div", fixed.Div, 1, 20001, 0, api.OK},
		{"Div", fixed.Div, most, most, 10000, api.OK},
		{"Div", fixed.Div, most, 10000, most, api.OK},
		{"Div", fixed.Div, most, -9999, 0, api.ErrNum},
		{"Div", fixed.Div, 0, 0, 0, api.ErrZero},
		{"Div", fixed.Div, most, 0, 0, api.ErrZero},
		{"Div", fixed.Div, most + 1, 0, 0, api.ErrNum},
		{"Div", fixed.Div, math.MinInt64, -1, 0, api.ErrNum},
		{"Mod", fixed.Mod, -70000, 30000, 20000, api.OK},
		{"Mod", fixed.Mod, 70000, -30000, -20000, api.OK},
		{"Mod", fixed.Mod, -70000, -30000, -10000, api.OK},
		{"Mod", fixed.Mod, 15000, 4000, 3000, api.OK},
		{"Mod", fixed.Mod, -60000, 30000, 0, api.OK},
		{"Mod", fixed.Mod, -1, most, most - 1, api.OK},
		{"Mod", fixed.Mod, -most, -1, 0, api.OK},
		{"Mod", fixed.Mod, 5, 0, 0, api.ErrZero},
		{"Mod", fixed.Mod, -most - 1, 0, 0, api.ErrNum},
		{"Mod", fixed.Mod, math.MinInt64, -1, 0, api.ErrNum},
	} {
		if n, e := x.do(x.a, x.b); n != x.n || e != x.e {
			t.Errorf("%s(%d, %d): %d, %d; want %d, %d", x.name, x.a, x.b, n, e, x.n, x.e)
		}
	}
}

// TestOfRaw holds P1.1's Of and Raw.
func TestOfRaw(t *testing.T) {
	for _, x := range []struct {
		n       int64
		of, raw fixed.Num
		e, f    api.Errno
	}{
		{0, 0, 0, api.OK, api.OK},
		{7, 70000, 7, api.OK, api.OK},
		{-7, -70000, -7, api.OK, api.OK},
		{900000000000000, most, 900000000000000, api.OK, api.OK},
		{-900000000000000, -most, -900000000000000, api.OK, api.OK},
		{900000000000001, 0, 900000000000001, api.ErrNum, api.OK},
		{-900000000000001, 0, -900000000000001, api.ErrNum, api.OK},
		{1 << 62, 0, 1 << 62, api.ErrNum, api.OK}, // times Scale this wraps round to 0
		{api.MaxNum, 0, most, api.ErrNum, api.OK},
		{-api.MaxNum, 0, -most, api.ErrNum, api.OK},
		{api.MaxNum + 1, 0, 0, api.ErrNum, api.ErrNum},
		{-api.MaxNum - 1, 0, 0, api.ErrNum, api.ErrNum},
		{math.MaxInt64, 0, 0, api.ErrNum, api.ErrNum},
		{math.MinInt64, 0, 0, api.ErrNum, api.ErrNum},
	} {
		if n, e := fixed.Of(x.n); n != x.of || e != x.e {
			t.Errorf("Of(%d): %d, %d; want %d, %d", x.n, n, e, x.of, x.e)
		}
		if n, e := fixed.Raw(x.n); n != x.raw || e != x.f {
			t.Errorf("Raw(%d): %d, %d; want %d, %d", x.n, n, e, x.raw, x.f)
		}
	}
}

// TestRound holds P1.3's Round against exact arithmetic, at all places that may be and at wrong ones.
func TestRound(t *testing.T) {
	places := []int{math.MinInt, math.MinInt32, -17, -16, 16, 17, math.MaxInt32, math.MaxInt}
	for p := -15; p <= 15; p++ {
		places = append(places, p)
	}
	for _, a := range edges() {
		for _, p := range places {
			want, e := wantRound(a, p)
			if n, f := fixed.Round(a, p); n != want || f != e {
				t.Fatalf("Round(%d, %d): %d, %d; want %d, %d", a, p, n, f, want, e)
			}
		}
	}
}

func wantRound(a fixed.Num, places int) (fixed.Num, api.Errno) {
	switch {
	case !good(a):
		return 0, api.ErrNum
	case places < -15 || places > 15:
		return 0, api.ErrArg
	case places > 3:
		return a, api.OK
	}
	step := new(big.Int).Exp(big.NewInt(10), big.NewInt(int64(4-places)), nil)
	steps := rounded(part(a), step)
	return told(steps.Mul(steps, step), api.OK)
}

func TestRoundByHand(t *testing.T) {
	for _, x := range []struct {
		a      fixed.Num
		places int
		n      fixed.Num
		e      api.Errno
	}{
		{12345, 4, 12345, api.OK},
		{12345, 15, 12345, api.OK},
		{12345, 3, 12350, api.OK},
		{12344, 3, 12340, api.OK},
		{-12345, 3, -12350, api.OK},
		{12350, 2, 12400, api.OK},
		{12349, 2, 12300, api.OK},
		{5000, 0, 10000, api.OK},
		{4999, 0, 0, api.OK},
		{-5000, 0, -10000, api.OK},
		{-4999, 0, 0, api.OK},
		{1250000, -1, 1300000, api.OK},
		{most, 3, most, api.OK},
		{most, -14, most, api.OK},
		{-most, -14, -most, api.OK},
		{most - 1, 3, most, api.OK},
		{4999999999999999999, -15, 0, api.OK},
		{-4999999999999999999, -15, 0, api.OK},
		{5000000000000000000, -15, 0, api.ErrNum},
		{-5000000000000000000, -15, 0, api.ErrNum},
		{12345, 16, 0, api.ErrArg},
		{12345, -16, 0, api.ErrArg},
		{0, math.MinInt, 0, api.ErrArg},
		{most + 1, 16, 0, api.ErrNum},
		{math.MinInt64, 4, 0, api.ErrNum},
	} {
		if n, e := fixed.Round(x.a, x.places); n != x.n || e != x.e {
			t.Errorf("Round(%d, %d): %d, %d; want %d, %d", x.a, x.places, n, e, x.n, x.e)
		}
	}
}

// TestFloorWhole holds P1.3's Floor and Whole.
func TestFloorWhole(t *testing.T) {
	for _, a := range edges() {
		floor, whole := fixed.Num(0), int64(0)
		if good(a) {
			n := down(part(a), scale)
			floor = fixed.Num(n.Mul(n, scale).Int64())
			whole = new(big.Int).Quo(part(a), scale).Int64()
		}
		if n := fixed.Floor(a); n != floor {
			t.Errorf("Floor(%d): %d; want %d", a, n, floor)
		}
		if n := fixed.Whole(a); n != whole {
			t.Errorf("Whole(%d): %d; want %d", a, n, whole)
		}
	}
	for _, x := range []struct {
		a, floor fixed.Num
		whole    int64
	}{
		{0, 0, 0}, {9999, 0, 0}, {10000, 10000, 1}, {19999, 10000, 1},
		{-1, -10000, 0}, {-9999, -10000, 0}, {-10000, -10000, -1}, {-19999, -20000, -1},
		{most, most, 900000000000000}, {-most, -most, -900000000000000}, {1 - most, -most, -899999999999999},
		{most + 1, 0, 0}, {-most - 1, 0, 0}, {math.MaxInt64, 0, 0}, {math.MinInt64, 0, 0},
	} {
		if n, w := fixed.Floor(x.a), fixed.Whole(x.a); n != x.floor || w != x.whole {
			t.Errorf("Floor, Whole(%d): %d, %d; want %d, %d", x.a, n, w, x.floor, x.whole)
		}
	}
}

// texts are texts of numbers, and texts that are nearly such.
func texts() []string {
	wholes := []string{"", "0", "00", "1", "7", "007", "12", "899999999999999", "900000000000000", "900000000000001",
		"1844674407370955", "1844674407370956", "000900000000000000", "999999999999999999", "000000000000000001",
		"0000000000000000001", "9999999999999999999", strings.Repeat("0", 40), "1 ", " 1", "1e3", "0x1", "1_0", "+1", "--1",
		"-", "a", "/", ":", "１", "\x00", "\xff", "∞"}
	parts := []string{"", ".", ".0", ".5", ".50", ".0001", ".9999", ".00005", ".00004", ".99995", ".99994", ".000049999999999999",
		".000050000000000000", ".123456789012345678", ".999999999999999999", ".1234567890123456789", ".0000000000000000000",
		".1.2", "..5", ".-5", ".5 ", ".5e1", ".a", ".٣", ","}
	var all []string
	for _, w := range wholes {
		for _, p := range parts {
			all = append(all, w+p, "-"+w+p)
		}
	}
	return all
}

var form = regexp.MustCompile(`\A-?[0-9]{1,18}(\.[0-9]{1,18})?\z`)

func wantParse(s string) (fixed.Num, api.Errno) {
	if !form.MatchString(s) {
		return 0, api.ErrForm
	}
	r, _ := new(big.Rat).SetString(s)
	r.Mul(r, new(big.Rat).SetInt(scale))
	return told(rounded(r.Num(), r.Denom()), api.OK)
}

// TestParse holds P1.4's Parse against exact arithmetic.
func TestParse(t *testing.T) {
	for _, s := range texts() {
		want, e := wantParse(s)
		if n, f := fixed.Parse(s); n != want || f != e {
			t.Errorf("Parse(%q): %d, %d; want %d, %d", s, n, f, want, e)
		}
	}
}

func TestParseByHand(t *testing.T) {
	for _, x := range []struct {
		s string
		n fixed.Num
		e api.Errno
	}{
		{"1.23", 12300, api.OK},
		{"-0.5", -5000, api.OK},
		{"-0", 0, api.OK},
		{"007", 70000, api.OK},
		{"0.00005", 1, api.OK},
		{"-0.00005", -1, api.OK},
		{"0.000049999999999999", 0, api.OK},
		{"1.99995", 20000, api.OK},
		{"000000000000000001", 10000, api.OK},
		{"0000000000000000001", 0, api.ErrForm},
		{"0.000000000000000000", 0, api.OK},
		{"0.0000000000000000000", 0, api.ErrForm},
		{"900000000000000", most, api.OK},
		{"-900000000000000", -most, api.OK},
		{"900000000000000.00004", most, api.OK},
		{"900000000000000.00005", 0, api.ErrNum},
		{"-900000000000000.00005", 0, api.ErrNum},
		{"899999999999999.99995", most, api.OK},
		{"1844674407370956", 0, api.ErrNum}, // times Scale this wraps round in 64 bits
		{"999999999999999999", 0, api.ErrNum},
		{"999999999999999999.", 0, api.ErrForm},
		{"9999999999999999999", 0, api.ErrForm},
		{"", 0, api.ErrForm},
		{"-", 0, api.ErrForm},
		{"--1", 0, api.ErrForm},
		{"+1", 0, api.ErrForm},
		{".5", 0, api.ErrForm},
		{"-.5", 0, api.ErrForm},
		{"5.", 0, api.ErrForm},
		{".", 0, api.ErrForm},
		{"1.2.3", 0, api.ErrForm},
		{"1,5", 0, api.ErrForm},
		{" 1", 0, api.ErrForm},
		{"1 ", 0, api.ErrForm},
		{"1\n", 0, api.ErrForm},
		{"1e3", 0, api.ErrForm},
		{strings.Repeat("1", 1<<20), 0, api.ErrForm},
		{"1." + strings.Repeat("0", 1<<20), 0, api.ErrForm},
	} {
		if n, e := fixed.Parse(x.s); n != x.n || e != x.e {
			t.Errorf("Parse(%.40q): %d, %d; want %d, %d", x.s, n, e, x.n, x.e)
		}
	}
}

// TestText holds P1.4's Text: what it must look like, and that Parse reads it back.
func TestText(t *testing.T) {
	plain := regexp.MustCompile(`\A-?(0|[1-9][0-9]*)(\.[0-9]{0,3}[1-9])?\z`)
	for _, a := range edges() {
		s := a.Text()
		if !good(a) {
			if s != "" {
				t.Errorf("Text of %d: %q; want the empty text", a, s)
			}
			continue
		}
		if !plain.MatchString(s) || s == "-0" {
			t.Errorf("Text of %d: %q", a, s)
		}
		if n, e := wantParse(s); n != a || e != api.OK {
			t.Errorf("Text of %d: %q, which is %d, %d", a, s, n, e)
		}
		if n, e := fixed.Parse(s); n != a || e != api.OK {
			t.Errorf("Parse of the Text of %d: %d, %d", a, n, e)
		}
	}
	for a, want := range map[fixed.Num]string{
		0: "0", 1: "0.0001", -1: "-0.0001", 10: "0.001", 1000: "0.1", 5000: "0.5", -5000: "-0.5", 10000: "1", 10001: "1.0001",
		12300: "1.23", -12300: "-1.23", 100000: "10", 1000500: "100.05", most: "900000000000000", -most: "-900000000000000",
		most - 1: "899999999999999.9999", most + 1: "", -most - 1: "", math.MaxInt64: "", math.MinInt64: "",
	} {
		if s := a.Text(); s != want {
			t.Errorf("Text of %d: %q; want %q", a, s, want)
		}
	}
}

// TestEveryPart walks all numbers with a small whole part, where each of the four digits takes each of its values.
func TestEveryPart(t *testing.T) {
	for a := fixed.Num(-20000); a <= 20000; a++ {
		s := strconv.FormatFloat(float64(a)/api.Scale, 'f', -1, 64)
		if a.Text() != s {
			t.Fatalf("Text of %d: %q; want %q", a, a.Text(), s)
		}
		if n, e := fixed.Parse(s); n != a || e != api.OK {
			t.Fatalf("Parse(%q): %d, %d", s, n, e)
		}
	}
}

// FuzzPairs looks for two numbers at which a call strays from exact arithmetic, or panics (P1).
func FuzzPairs(f *testing.F) {
	f.Add(int64(api.MaxNum), int64(10001))
	f.Add(int64(math.MinInt64), int64(-1))
	f.Fuzz(func(t *testing.T, x, y int64) {
		a, b := fixed.Num(x), fixed.Num(y)
		for _, c := range twos() {
			want, e := fixed.Num(0), api.ErrNum
			if good(a) && good(b) {
				want, e = told(c.want(part(a), part(b)))
			}
			if n, g := c.do(a, b); n != want || g != e {
				t.Errorf("%s(%d, %d): %d, %d; want %d, %d", c.name, a, b, n, g, want, e)
			}
		}
		want, e := wantRound(a, int(y%20))
		if n, g := fixed.Round(a, int(y%20)); n != want || g != e {
			t.Errorf("Round(%d, %d): %d, %d; want %d, %d", a, y%20, n, g, want, e)
		}
	})
}

// FuzzParse looks for a text that Parse reads otherwise than exact arithmetic does, or at which it panics (P1).
func FuzzParse(f *testing.F) {
	f.Add("-900000000000000.00005")
	f.Add("0.00005")
	f.Fuzz(func(t *testing.T, s string) {
		want, e := wantParse(s)
		if n, g := fixed.Parse(s); n != want || g != e {
			t.Errorf("Parse(%q): %d, %d; want %d, %d", s, n, g, want, e)
		}
	})
}
