package float_test

import (
	"math"
	"math/big"
	"testing"

	"lattice/api"
	"lattice/fixed"
	"lattice/float"
)

const (
	most   = fixed.Num(api.MaxNum)
	tiny   = math.SmallestNonzeroFloat64
	normal = 0x1p-1022 // the least that isn't subnormal
)

var (
	minusZero = math.Copysign(0, -1)
	up        = math.Inf(1)
	down      = math.Inf(-1)
)

// nans are some of the many float64 that are no number: both signs, quiet and signalling.
func nans() []float64 {
	var all []float64
	for _, b := range []uint64{0x7ff8000000000001, 0x7ff8000000000000, 0xfff8000000000000, 0x7ff0000000000001, 0xfff0000000000001,
		0x7fffffffffffffff, 0xffffffffffffffff, 0x7ff4000000000000} {
		all = append(all, math.Float64frombits(b))
	}
	return all
}

// floats are of every exponent, with the least, the greatest and some other words behind it, both signs: all classes.
func floats() []float64 {
	var all []float64
	for sign := range uint64(2) {
		for exponent := range uint64(2048) {
			for _, word := range []uint64{0, 1, 2, 1<<51 - 1, 1 << 51, 1<<51 + 1, 0x5555555555555, 0xaaaaaaaaaaaaa, 1<<52 - 2, 1<<52 - 1} {
				all = append(all, math.Float64frombits(sign<<63|exponent<<52|word))
			}
		}
	}
	return all
}

// wantClass goes by the bits of the IEEE 754 form.
func wantClass(f float64) float.Class {
	b := math.Float64bits(f)
	set, exponent, word := b>>63 == 1, b>>52&2047, b&(1<<52-1)
	pick := func(minus, plus float.Class) float.Class {
		if set {
			return minus
		}
		return plus
	}
	switch {
	case exponent == 2047 && word != 0:
		return float.NaN
	case exponent == 2047:
		return pick(float.Down, float.Up)
	case exponent == 0 && word == 0:
		return pick(float.MinusZero, float.Zero)
	}
	return pick(float.Below, float.Above)
}

// TestClassesAndParts holds P2.1 against the bits, at floats of every exponent.
func TestClassesAndParts(t *testing.T) {
	for _, f := range append(floats(), nans()...) {
		if k := float.Of(f); k != wantClass(f) {
			t.Errorf("Of(%g): %d; want %d", f, k, wantClass(f))
		}
		b := math.Float64bits(f)
		m, e := b&(1<<52-1)|1<<52, int(b>>52&2047)-1075
		switch b >> 52 & 2047 {
		case 2047:
			m, e = 0, 0
		case 0:
			m, e = b&(1<<52-1), -1074
		}
		if sign, n, p := float.Parts(f); sign != (b>>63 == 1) || n != m || p != e {
			t.Errorf("Parts(%g): %v, %d, %d; want %v, %d, %d", f, sign, n, p, b>>63 == 1, m, e)
		}
	}
}

// TestClassesByHand has P2.1's answers written out, and the numbers that the classes have.
func TestClassesByHand(t *testing.T) {
	if float.NaN != 0 || float.Down != 1 || float.Below != 2 || float.MinusZero != 3 || float.Zero != 4 || float.Above != 5 || float.Up != 6 || float.Classes != 7 {
		t.Error("the classes aren't numbered as they are listed")
	}
	for _, x := range []struct {
		f    float64
		k    float.Class
		sign bool
		m    uint64
		e    int
	}{
		{math.NaN(), float.NaN, false, 0, 0},
		{math.Copysign(math.NaN(), -1), float.NaN, true, 0, 0},
		{down, float.Down, true, 0, 0},
		{up, float.Up, false, 0, 0},
		{0, float.Zero, false, 0, -1074},
		{minusZero, float.MinusZero, true, 0, -1074},
		{tiny, float.Above, false, 1, -1074},
		{-tiny, float.Below, true, 1, -1074},
		{normal - tiny, float.Above, false, 1<<52 - 1, -1074},
		{normal, float.Above, false, 1 << 52, -1074},
		{2 * normal, float.Above, false, 1 << 52, -1073},
		{-normal, float.Below, true, 1 << 52, -1074},
		{1, float.Above, false, 1 << 52, -52},
		{-1, float.Below, true, 1 << 52, -52},
		{1.5, float.Above, false, 3 << 51, -52},
		{0.1, float.Above, false, 0x1999999999999a, -56},
		{1<<53 - 1, float.Above, false, 1<<53 - 1, 0},
		{1 << 53, float.Above, false, 1 << 52, 1},
		{1 << 52, float.Above, false, 1 << 52, 0},
		{1<<52 - 0.5, float.Above, false, 1<<53 - 1, -1},
		{math.MaxFloat64, float.Above, false, 1<<53 - 1, 971},
		{-math.MaxFloat64, float.Below, true, 1<<53 - 1, 971},
	} {
		sign, m, e := float.Parts(x.f)
		if k := float.Of(x.f); k != x.k || sign != x.sign || m != x.m || e != x.e {
			t.Errorf("%g: %d, %v, %d, %d; want %d, %v, %d, %d", x.f, k, sign, m, e, x.k, x.sign, x.m, x.e)
		}
	}
}

// nums are numbers at which a sign, a limit or the width of a float64 turns, good or not.
func nums() []fixed.Num {
	all := []fixed.Num{0, math.MinInt64, math.MaxInt64, math.MinInt64 + 1, math.MaxInt64 - 1}
	for _, a := range []fixed.Num{1, 2, 3, 5, 7, 312, 313, 625, 4999, 5000, 5001, 9999, 10000, 10001, 12345, 15000, 20000, 30000,
		1<<53 - 1, 1 << 53, 1<<53 + 1, 1<<53 + 2, 1<<53 + 3, 1<<54 + 1, 1<<54 + 2, 1<<54 + 3, 1<<54 + 6, 1<<62 - 1, 1<<62 + 1, 1<<62 + 256,
		1<<62 + 512, 1<<62 + 513, 1<<62 + 1536, 1234567890123456789, 8999999999999999487, 8999999999999999488, 8999999999999999489,
		most - 10000, most - 513, most - 512, most - 511, most - 1, most, most + 1, most + 2, most + 512} {
		all = append(all, a, -a)
	}
	for n := fixed.Num(10); n < most/10; n *= 10 {
		all = append(all, n-1, n, n+1, 3*n, 7*n, 1-n, -n, -1-n, -3*n)
	}
	return all
}

func good(a fixed.Num) bool { return a >= -most && a <= most }

// wantTo rounds twice, as P2.2 says, by arithmetic of its own.
func wantTo(a fixed.Num) float64 {
	if !good(a) {
		return 0
	}
	parts := new(big.Float).SetPrec(53).SetMode(big.ToNearestEven).SetInt64(int64(a))
	f, _ := new(big.Float).SetPrec(53).SetMode(big.ToNearestEven).Quo(parts, big.NewFloat(api.Scale)).Float64()
	return f
}

// same: the same bits, but for NaN, which are all one.
func same(f, g float64) bool {
	return f != f && g != g || math.Float64bits(f) == math.Float64bits(g)
}

// TestTo holds P2.2's To.
func TestTo(t *testing.T) {
	for _, a := range nums() {
		if f := float.To(a); !same(f, wantTo(a)) {
			t.Errorf("To(%d): %v; want %v", a, f, wantTo(a))
		}
	}
	for _, x := range []struct {
		a fixed.Num
		f float64
	}{
		{0, 0}, {10000, 1}, {15000, 1.5}, {-15000, -1.5}, {1, 0.0001}, {-1, -0.0001}, {3333, 0.3333},
		{most, 900000000000000}, {-most, -900000000000000}, {most + 1, 0}, {-most - 1, 0}, {math.MinInt64, 0}, {math.MaxInt64, 0},
		{1<<53 + 1, 900719925474.0992}, // as near to two: the one below it ends in a bit 0
		{1<<53 + 3, 900719925474.0996},
	} {
		if f := float.To(x.a); !same(f, x.f) {
			t.Errorf("To(%d): %v; want %v", x.a, f, x.f)
		}
	}
}

// wantFrom goes by exact fractions.
func wantFrom(f float64) (fixed.Num, api.Errno) {
	switch wantClass(f) {
	case float.NaN:
		return 0, api.ErrForm
	case float.Down, float.Up:
		return 0, api.ErrNum
	}
	r := new(big.Rat).SetFloat64(f)
	r.Mul(r, big.NewRat(api.Scale, 1))
	size := new(big.Rat).Abs(r)
	size.Add(size, big.NewRat(1, 2))
	n := new(big.Int).Quo(size.Num(), size.Denom())
	if n.Cmp(big.NewInt(api.MaxNum)) > 0 {
		return 0, api.ErrNum
	}
	return fixed.Num(n.Int64() * int64(r.Sign())), api.OK
}

// near are the float64 round a number of parts and round the halves beside it, and their neighbours.
func near(parts float64) []float64 {
	var all []float64
	for _, p := range []float64{parts - 0.5, parts, parts + 0.5} {
		f := p / api.Scale
		above, below := math.Nextafter(f, up), math.Nextafter(f, down)
		all = append(all, f, above, below, math.Nextafter(above, up), math.Nextafter(below, down))
	}
	return all
}

// TestFrom holds P2.2's From against exact fractions: at floats of every exponent, near whole parts and their halves, near the limit.
func TestFrom(t *testing.T) {
	all := append(floats(), nans()...)
	for n := range 2000 {
		all = append(all, near(float64(n))...)
		all = append(all, near(float64(n)*1e12+float64(n))...)
		odd := float64(2*n + 1)
		half := odd / 32 // 312.5 parts, times an odd number: as near to two
		all = append(all, half, math.Nextafter(half, up), math.Nextafter(half, down))
		half += 1 << 46 // so that it fits just so
		all = append(all, half, math.Nextafter(half, up), math.Nextafter(half, down))
	}
	for _, a := range nums() {
		all = append(all, near(float64(a))...)
	}
	for _, f := range all {
		for _, g := range []float64{f, -f} {
			want, e := wantFrom(g)
			if n, o := float.From(g); n != want || o != e {
				t.Fatalf("From(%v): %d, %d; want %d, %d", g, n, o, want, e)
			}
		}
	}
}

// TestFromByHand has P2.2's answers written out.
func TestFromByHand(t *testing.T) {
	for _, x := range []struct {
		f float64
		n fixed.Num
		e api.Errno
	}{
		{0.1, 1000, api.OK},
		{-0.1, -1000, api.OK},
		{2.5e-05, 0, api.OK},
		{7.5e-05, 1, api.OK},
		{-7.5e-05, -1, api.OK},
		{0, 0, api.OK},
		{minusZero, 0, api.OK},
		// As near to two numbers, and a little nearer to one.
		{0.03125, 313, api.OK},
		{-0.03125, -313, api.OK},
		{math.Nextafter(0.03125, 0), 312, api.OK},
		{math.Nextafter(-0.03125, 0), -312, api.OK},
		{0.09375, 938, api.OK},
		{70368744177664.03125, 703687441776640313, api.OK},
		{-70368744177664.03125, -703687441776640313, api.OK},
		// A little below a half, where the product by 10000 is rounded to that half.
		{0.00035, 3, api.OK},
		{0.29995, 2999, api.OK},
		{-0.29995, -2999, api.OK},
		{8.00005, 80000, api.OK},
		// A little above one.
		{0.00005, 1, api.OK},
		{0.00025, 3, api.OK},
		{-2.00015, -20002, api.OK},
		// At the limit, and where the parts are too many for a word, or in a word but not in an int64.
		{562949953421312, 5629499534213120000, api.OK},
		{899999999999999.875, most - 1250, api.OK},
		{900000000000000, most, api.OK},
		{-900000000000000, -most, api.OK},
		{900000000000000.125, 0, api.ErrNum},
		{-900000000000000.125, 0, api.ErrNum},
		{922337203685477.625, 0, api.ErrNum},
		{1800000000000000, 0, api.ErrNum},
		{1844674407370955.25, 0, api.ErrNum},
		{-1844674407370955.25, 0, api.ErrNum},
		{1 << 51, 0, api.ErrNum},
		{1 << 52, 0, api.ErrNum},
		{1 << 60, 0, api.ErrNum},
		{1e300, 0, api.ErrNum},
		{-1e300, 0, api.ErrNum},
		{math.MaxFloat64, 0, api.ErrNum},
		{-math.MaxFloat64, 0, api.ErrNum},
		// So small that nothing is left.
		{0x1p-15, 0, api.OK},
		{0x1p-64, 0, api.OK},
		{1e-300, 0, api.OK},
		{normal, 0, api.OK},
		{tiny, 0, api.OK},
		{-tiny, 0, api.OK},
		// No numbers.
		{up, 0, api.ErrNum},
		{down, 0, api.ErrNum},
		{math.NaN(), 0, api.ErrForm},
		{math.Copysign(math.NaN(), -1), 0, api.ErrForm},
	} {
		if n, e := float.From(x.f); n != x.n || e != x.e {
			t.Errorf("From(%v): %d, %d; want %d, %d", x.f, n, e, x.n, x.e)
		}
	}
}

// wantSqrt is the root of four times as much, halved and rounded: no half is ever met.
func wantSqrt(a fixed.Num) (fixed.Num, api.Errno) {
	if a < 0 || !good(a) {
		return 0, api.ErrNum
	}
	n := new(big.Int).Mul(big.NewInt(int64(a)), big.NewInt(4*api.Scale))
	return fixed.Num((n.Sqrt(n).Int64() + 1) / 2), api.OK
}

// TestSqrt holds P2.3 against exact arithmetic: at small numbers, at squares and at what is as near to two roots as can be.
func TestSqrt(t *testing.T) {
	all := nums()
	for a := range fixed.Num(30000) {
		all = append(all, a)
	}
	for root := int64(1); root <= 300000000000; root += root/50 + 1 {
		square := new(big.Int).Mul(big.NewInt(root), big.NewInt(root-1)) // as near to root as to the one below, but for a quarter
		a := fixed.Num(square.Quo(square, big.NewInt(api.Scale)).Int64())
		all = append(all, a-1, a, a+1, a+2)
	}
	for root := fixed.Num(1); root <= 3000000000; root += root/50 + 1 {
		all = append(all, root*root-1, root*root, root*root+1)
	}
	for _, a := range all {
		want, e := wantSqrt(a)
		if n, f := float.Sqrt(a); n != want || f != e {
			t.Fatalf("Sqrt(%d): %d, %d; want %d, %d", a, n, f, want, e)
		}
	}
}

// TestSqrtByHand has P2.3's answers written out.
func TestSqrtByHand(t *testing.T) {
	for _, x := range []struct {
		a, n fixed.Num
		e    api.Errno
	}{
		{0, 0, api.OK},
		{1, 100, api.OK},
		{2, 141, api.OK},
		{3, 173, api.OK},
		{10000, 10000, api.OK},
		{20000, 14142, api.OK},
		{30000, 17321, api.OK},
		{40000, 20000, api.OK},
		{22500, 15000, api.OK},
		{most, 300000000000, api.OK},
		{most - 1, 300000000000, api.OK},
		{-1, 0, api.ErrNum},
		{-most, 0, api.ErrNum},
		{-most - 1, 0, api.ErrNum},
		{most + 1, 0, api.ErrNum},
		{math.MinInt64, 0, api.ErrNum},
		{math.MaxInt64, 0, api.ErrNum},
	} {
		if n, e := float.Sqrt(x.a); n != x.n || e != x.e {
			t.Errorf("Sqrt(%d): %d, %d; want %d, %d", x.a, n, e, x.n, x.e)
		}
	}
}

// TestOrder holds P2.4's Order at every pair of a list that stands in order, groups of the same ones in brackets.
func TestOrder(t *testing.T) {
	var list []float64
	for _, f := range []float64{tiny, 2 * tiny, normal - tiny, normal, 0.1, 1 - 0x1p-53, 1, 1 + 0x1p-52, 2, 1e15, 1e300, math.MaxFloat64} {
		list = append([]float64{-f}, append(list, f)...)
	}
	half := len(list) / 2
	groups := [][]float64{{down, down}}
	for _, f := range list[:half] {
		groups = append(groups, []float64{f})
	}
	groups = append(groups, []float64{minusZero, minusZero}, []float64{0, 0})
	for _, f := range list[half:] {
		groups = append(groups, []float64{f})
	}
	groups = append(groups, []float64{up, up}, nans())
	for i, these := range groups {
		for k, those := range groups {
			want := 0
			if i < k {
				want = -1
			} else if i > k {
				want = 1
			}
			for _, f := range these {
				for _, g := range those {
					if o := float.Order(f, g); o != want {
						t.Errorf("Order(%v, %v): %d; want %d", f, g, o, want)
					}
				}
			}
		}
	}
}

// TestRatio holds P2.4's Ratio: at all pairs against Go's own division of what To must tell, and written out.
func TestRatio(t *testing.T) {
	for _, a := range nums() {
		for _, b := range nums() {
			if f, want := float.Ratio(a, b), wantTo(a)/wantTo(b); !same(f, want) {
				t.Errorf("Ratio(%d, %d): %v; want %v", a, b, f, want)
			}
		}
	}
	for _, x := range []struct {
		a, b fixed.Num
		f    float64
	}{
		{10000, 40000, 0.25},
		{10000, 30000, 1.0 / 3},
		{-10000, 30000, -1.0 / 3},
		{3000, 1000, 2.9999999999999996}, // 3, had neither been rounded ahead
		{1, 0, up},
		{-1, 0, down},
		{most, 0, up},
		{-most, 0, down},
		{0, 0, math.NaN()},
		{0, 1, 0},
		{0, -1, minusZero},
		{most, 1, 9e18},
		{1, most, 1.111111111111111e-19},
		{most + 1, 1, 0},
		{1, most + 1, up},
		{-1, math.MinInt64, down},
		{most + 1, 0, math.NaN()},
	} {
		if f := float.Ratio(x.a, x.b); !same(f, x.f) {
			t.Errorf("Ratio(%d, %d): %v; want %v", x.a, x.b, f, x.f)
		}
	}
}

// FuzzFloat holds P2.1, P2.2 and P2.4 at any bits.
func FuzzFloat(f *testing.F) {
	f.Add(uint64(0), uint64(1))
	f.Add(math.Float64bits(0.00035), math.Float64bits(-9e14))
	f.Add(math.Float64bits(down), math.Float64bits(math.NaN()))
	f.Fuzz(func(t *testing.T, b, c uint64) {
		x, y := math.Float64frombits(b), math.Float64frombits(c)
		want, e := wantFrom(x)
		if n, o := float.From(x); n != want || o != e {
			t.Errorf("From(%v): %d, %d; want %d, %d", x, n, o, want, e)
		}
		if float.Of(x) != wantClass(x) {
			t.Errorf("Of(%v): %d; want %d", x, float.Of(x), wantClass(x))
		}
		_, m, power := float.Parts(x)
		if k := wantClass(x); k != float.NaN && k != float.Down && k != float.Up && math.Ldexp(float64(m), power) != math.Abs(x) {
			t.Errorf("Parts(%v): %d, %d", x, m, power)
		}
		if o, p := float.Order(x, y), float.Order(y, x); o != -p || o != 0 && x == x && y == y && o < 0 != (x < y || x == 0 && y == 0 && math.Signbit(x)) {
			t.Errorf("Order(%v, %v): %d, and the other way %d", x, y, o, p)
		}
	})
}

// FuzzNum holds P2.2, P2.3 and P2.4 at any number.
func FuzzNum(f *testing.F) {
	f.Add(int64(20000), int64(0))
	f.Add(int64(api.MaxNum), int64(math.MinInt64))
	f.Fuzz(func(t *testing.T, n, m int64) {
		a, b := fixed.Num(n), fixed.Num(m)
		if !same(float.To(a), wantTo(a)) || !same(float.Ratio(a, b), wantTo(a)/wantTo(b)) {
			t.Errorf("%d, %d: %v, %v", a, b, float.To(a), float.Ratio(a, b))
		}
		want, e := wantSqrt(a)
		if r, o := float.Sqrt(a); r != want || o != e {
			t.Errorf("Sqrt(%d): %d, %d; want %d, %d", a, r, o, want, e)
		}
	})
}
