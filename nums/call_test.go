package nums_test

import (
	"math"
	"slices"
	"strings"
	"testing"

	"lattice/api"
	"lattice/fixed"
	"lattice/nums"
	"lattice/value"
)

// call holds what a function tells.
func call(t *testing.T, name string, want value.Value, args ...value.Value) {
	t.Helper()
	if v, ok := nums.Call(name, args); v != want || !ok {
		t.Errorf("Call(%q, %.120v): %.40v, %v; want %.40v", name, args, v, ok, want)
	}
}

// callText holds a call that is written out: values as somebody types them, the first one what is told.
func callText(t *testing.T, line string) {
	t.Helper()
	words := strings.Fields(line)
	var args []value.Value
	for _, s := range words[2:] {
		args = append(args, value.Read(s))
	}
	call(t, words[1], value.Read(words[0]), args...)
}

// TestOnes holds P9.2's functions of one number against exact arithmetic.
func TestOnes(t *testing.T) {
	for _, a := range append(edges(), around(0)...) {
		for name, exact := range ones() {
			call(t, name, exact.of(a), num(a))
		}
		call(t, "EVEN", exactEven(a), num(a))
		enough(t)
	}
}

// around are numbers close to one, up to 3 each way, and some that are whole ones farther.
func around(start fixed.Num) []fixed.Num {
	var all []fixed.Num
	for a := start - 30000; a <= start+30000; a += 7 {
		all = append(all, a)
	}
	for n := fixed.Num(-30); n <= 30; n++ {
		all = append(all, start+n*api.Scale)
	}
	return all
}

// TestTwos holds P9.2's and P9.3's functions of two numbers against exact arithmetic, at every pair of the edges.
func TestTwos(t *testing.T) {
	for name, exact := range twos() {
		for _, a := range edges() {
			for _, b := range edges() {
				call(t, name, exact.of(a, b), num(a), num(b))
			}
			enough(t)
		}
	}
}

// TestPlaces holds ROUND and ROUNDUP at all places that may be, at more, and at such as aren't whole.
func TestPlaces(t *testing.T) {
	var places []fixed.Num
	for p := fixed.Num(-18); p <= 18; p++ {
		places = append(places, p*api.Scale, p*api.Scale+1, p*api.Scale-1, p*api.Scale+5000)
	}
	for _, name := range []string{"ROUND", "ROUNDUP"} {
		for _, a := range append(edges(), around(most/2)...) {
			for _, p := range places {
				call(t, name, twos()[name].of(a, p), num(a), num(p))
			}
			enough(t)
		}
	}
}

// TestPower holds that POWER tells what ^ does, of values of every kind.
func TestPower(t *testing.T) {
	for _, a := range guises() {
		for _, b := range guises() {
			want, _ := nums.Bin("^", a.v, b.v)
			call(t, "POWER", want, a.v, b.v)
		}
		enough(t)
	}
}

// TestOnesByHand has P9.2's answers written out.
func TestOnesByHand(t *testing.T) {
	for _, line := range []string{
		"1.5 ABS -1.5", "1.5 ABS 1.5", "0 ABS 0", "900000000000000 ABS -900000000000000", "0.0001 ABS -0.0001",
		"-1 SIGN -0.0001", "0 SIGN 0", "1 SIGN 0.0001", "1 SIGN 900000000000000", "-1 SIGN -900000000000000",
		"1 INT 1.9999", "-1 INT -0.0001", "-2 INT -1.9999", "-2 INT -2", "0 INT 0.9999", "-900000000000000 INT -899999999999999.9999",
		"1 TRUNC 1.9999", "0 TRUNC -0.0001", "-1 TRUNC -1.9999", "-2 TRUNC -2", "-899999999999999 TRUNC -899999999999999.9999", "900000000000000 TRUNC 900000000000000",
		"1.4142 SQRT 2", "0 SQRT 0", "1.5 SQRT 2.25", "0.01 SQRT 0.0001", "1.7321 SQRT 3", "30000000 SQRT 900000000000000", "#NUM! SQRT -0.0001", "#NUM! SQRT -4",
		"1 FACT 0", "1 FACT 1", "2 FACT 2", "6 FACT 3", "24 FACT 4", "120 FACT 5", "3628800 FACT 10", "20922789888000 FACT 16", "355687428096000 FACT 17",
		"#NUM! FACT 18", "#NUM! FACT 19", "#NUM! FACT 1000", "#NUM! FACT 900000000000000",
		"#NUM! FACT -1", "#NUM! FACT -0.0001", "#NUM! FACT 0.0001", "#NUM! FACT 2.5", "#NUM! FACT 18.5", "#NUM! FACT -900000000000000",
		"TRUE EVEN 0", "TRUE EVEN 2", "TRUE EVEN -2", "FALSE EVEN 1", "FALSE EVEN -1", "FALSE EVEN 899999999999999", "TRUE EVEN 900000000000000", "FALSE EVEN -899999999999999",
		"#NUM! EVEN 0.5", "#NUM! EVEN 2.0001", "#NUM! EVEN -1.9999", "#NUM! EVEN 0.0002",
	} {
		callText(t, line)
	}
}

// TestTwosByHand has P9.2's answers written out.
func TestTwosByHand(t *testing.T) {
	for _, line := range []string{
		"1.23 ROUND 1.2345 2", "1.24 ROUND 1.235 2", "-1.24 ROUND -1.235 2", "2 ROUND 1.5 0", "-2 ROUND -1.5 0", "130 ROUND 125 -1", "120 ROUND 124.9999 -1", "1.235 ROUND 1.2345 3",
		"1.2345 ROUND 1.2345 4", "1.2345 ROUND 1.2345 15", "0 ROUND 400000000000000 -15", "#NUM! ROUND 500000000000000 -15", "#NUM! ROUND -500000000000000 -15", "0 ROUND 499999999999999.9999 -15",
		"900000000000000 ROUND 899999999999999.9999 0", "900000000000000 ROUND 860000000000000 -14", "0 ROUND 0 -15",
		"#NUM! ROUND 1 0.5", "#NUM! ROUND 1 -0.5", "#NUM! ROUND 1 1.9999", "#NUM! ROUND 1 16", "#NUM! ROUND 1 -16", "#NUM! ROUND 1 15.0001", "#NUM! ROUND 1 -15.0001",
		"#NUM! ROUND 1 900000000000000", "#NUM! ROUND 1 -900000000000000", "#NUM! ROUND 1 429496729600000", "#NUM! ROUND 0 16",
		"2 MOD -7 3", "-2 MOD 7 -3", "-1 MOD -7 -3", "1 MOD 7 3", "0 MOD -6 3", "0.3 MOD 1.5 0.4", "#DIV/0! MOD 1 0", "#DIV/0! MOD 0 0", "899999999999999.9999 MOD -0.0001 900000000000000",
		"-2 QUOTIENT -7 3", "-2 QUOTIENT 7 -3", "2 QUOTIENT -7 -3", "2 QUOTIENT 7 3", "0 QUOTIENT 1 3", "0 QUOTIENT -2 3", "2 QUOTIENT 0.5 0.2", "0 QUOTIENT 0 5",
		"#DIV/0! QUOTIENT 1 0", "#DIV/0! QUOTIENT 0 0", "1 QUOTIENT 1.9999 1", "900000000000000 QUOTIENT 900000000000000 1", "-900000000000000 QUOTIENT 900000000000000 -1",
		"#NUM! QUOTIENT 900000000000000 0.0001", "#NUM! QUOTIENT 900000000000000 0.9999", "#NUM! QUOTIENT -900000000000000 0.9999", "#NUM! QUOTIENT 90000000000.0001 0.0001",
		// Layer 1's quotient, which is rounded, would be 1, or too great.
		"0 QUOTIENT 899999999999999.9999 900000000000000", "0 QUOTIENT -899999999999999.9999 900000000000000", "900000000000000 QUOTIENT 270000000000.0002 0.0003",
		"8 POWER 2 3", "0.25 POWER 2 -2", "1 POWER 0 0", "#DIV/0! POWER 0 -1", "#NUM! POWER 4 0.5", "#NUM! POWER 1 1001", "#NUM! POWER 10 15",
		"6 GCD 12 18", "6 GCD 18 12", "1 GCD 7 12", "5 GCD 0 5", "5 GCD 5 0", "0 GCD 0 0", "7 GCD 7 7", "1 GCD 899999999999999 900000000000000", "900000000000000 GCD 900000000000000 900000000000000", "1 GCD 1 900000000000000",
		"#NUM! GCD 0.5 0", "#NUM! GCD 0 0.5", "#NUM! GCD 2.5 5", "#NUM! GCD 5 2.5", "#NUM! GCD -4 2", "#NUM! GCD 4 -2", "#NUM! GCD -4 -2", "#NUM! GCD -0.0001 1", "#NUM! GCD 0 -1",
		"0.3333 RATIO 1 3", "-0.6667 RATIO 2 -3", "0 RATIO 0 -5", "900000000000000 RATIO 900000000000000 1", "#NUM! RATIO 900000000000000 0.9999", "#NUM! RATIO 900000000000000 0.0001", "#NUM! RATIO -900000000000000 0.0001",
		"#DIV/0! RATIO 1 0", "#DIV/0! RATIO -1 0", "#DIV/0! RATIO 0 0", "#DIV/0! RATIO 900000000000000 0", "10000 RATIO 1 0.0001", "3 RATIO 0.3 0.1",
		// As float64 these are a little below the half that layer 1's quotient is rounded up from.
		"0.0001 RATIO 0.0003 2", "0.7812 RATIO 7 8.96", "3.9062 RATIO 17 4.352",
	} {
		callText(t, line)
	}
}

// TestRoundUp has P9.3's answers written out.
func TestRoundUp(t *testing.T) {
	for _, line := range []string{
		"1.1 ROUNDUP 1.01 1", "-1.1 ROUNDUP -1.01 1", "1.1 ROUNDUP 1.1 1", "-1.1 ROUNDUP -1.1 1", "1.2 ROUNDUP 1.1001 1", "-1.2 ROUNDUP -1.1001 1", "1.2 ROUNDUP 1.1999 1",
		"1.24 ROUNDUP 1.2345 2", "1.235 ROUNDUP 1.2345 3", "-1.235 ROUNDUP -1.2341 3", "1.234 ROUNDUP 1.234 3",
		"1.2345 ROUNDUP 1.2345 4", "-1.2345 ROUNDUP -1.2345 5", "1.2345 ROUNDUP 1.2345 15",
		"1 ROUNDUP 0.0001 0", "-1 ROUNDUP -0.0001 0", "1 ROUNDUP 1 0", "2 ROUNDUP 1.0001 0", "0 ROUNDUP 0 0", "0 ROUNDUP 0 3", "0 ROUNDUP 0 -14", "0 ROUNDUP 0 -15", "0 ROUNDUP 0 15",
		"10 ROUNDUP 0.0001 -1", "-10 ROUNDUP -10 -1", "20 ROUNDUP 10.0001 -1", "100 ROUNDUP 0.0001 -2", "-1000 ROUNDUP -1 -3",
		"100000000000000 ROUNDUP 0.0001 -14", "900000000000000 ROUNDUP 800000000000000.0001 -14", "-900000000000000 ROUNDUP -899999999999999.9999 -14", "900000000000000 ROUNDUP 900000000000000 -14",
		"900000000000000 ROUNDUP 899999999999999.9999 3", "-900000000000000 ROUNDUP -899999999999999.9999 0", "900000000000000 ROUNDUP 890000000000001 -13",
		"#NUM! ROUNDUP 0.0001 -15", "#NUM! ROUNDUP -0.0001 -15", "#NUM! ROUNDUP -1 -15", "#NUM! ROUNDUP 900000000000000 -15", "#NUM! ROUNDUP -900000000000000 -15", "#NUM! ROUNDUP 499999999999999 -15",
		"#NUM! ROUNDUP 1 0.5", "#NUM! ROUNDUP 1 -0.5", "#NUM! ROUNDUP 1 3.0001", "#NUM! ROUNDUP 0 0.5", "#NUM! ROUNDUP 1 4.5", "#NUM! ROUNDUP 1 16", "#NUM! ROUNDUP 1 -16", "#NUM! ROUNDUP 0 16", "#NUM! ROUNDUP 0 -16",
		"#NUM! ROUNDUP 1 15.0001", "#NUM! ROUNDUP 1 -15.0001", "#NUM! ROUNDUP 1 900000000000000", "#NUM! ROUNDUP 1 -900000000000000",
	} {
		callText(t, line)
	}
}

// TestCallGuises holds that all arguments are taken as numbers, and that the first error is told, from left to right.
func TestCallGuises(t *testing.T) {
	for _, a := range guises() {
		for name, exact := range ones() {
			call(t, name, firstFail(exact.of(a.n), a), a.v)
		}
		call(t, "EVEN", firstFail(exactEven(a.n), a), a.v)
		for _, b := range guises() {
			for name, exact := range twos() {
				call(t, name, firstFail(exact.of(a.n, b.n), a, b), a.v, b.v)
			}
		}
		enough(t)
	}
}

// TestCount holds that a wrong number of arguments is the error Val, whatever they are.
func TestCount(t *testing.T) {
	for _, name := range known() {
		for _, v := range []value.Value{{}, num(10000), text("x"), fail(value.NA), {Kind: value.Kinds}} {
			for _, n := range []int{0, 1, 2, 3, 4, 32, 33, 1000} {
				if n != takes(name) {
					call(t, name, fail(value.Val), slices.Repeat([]value.Value{v}, n)...)
				}
			}
			enough(t)
		}
		if v, ok := nums.Call(name, []value.Value{}); v != fail(value.Val) || !ok {
			t.Errorf("Call(%q) of no arguments: %v, %v", name, v, ok)
		}
	}
}

// TestNames holds which names there are: those of the table, in great letters, and no others.
func TestNames(t *testing.T) {
	for _, name := range known() {
		if !nums.Has(name) {
			t.Errorf("Has(%q): false", name)
		}
		if _, ok := nums.Call(name, nil); !ok {
			t.Errorf("Call(%q): false", name)
		}
	}
	others := []string{"", " ", "abs", "Abs", " ABS", "ABS ", "ABS(", "AB", "ABSS", "ROUNDDOWN", "ODD", "LCM", "NEG", "PCT", "+", "^", "&", "=", "%", "\x00", "\xff", strings.Repeat("ABS", 1<<20),
		"LEN", "TRIM", "FIXED", "VALUE", "SUM", "PRODUCT", "MIN", "COUNTIF", "VLOOKUP", "INDEX", "IF", "NOT", "N", "T", "TRUE", "PI", "TYPE"}
	for _, name := range known() {
		others = append(others, strings.ToLower(name), name+"\x00")
	}
	for _, name := range others {
		if nums.Has(name) {
			t.Errorf("Has(%.40q): true", name)
		}
		for n := range 4 {
			for _, v := range []value.Value{num(10000), fail(value.NA)} {
				if got, ok := nums.Call(name, slices.Repeat([]value.Value{v}, n)); ok || got != (value.Value{}) {
					t.Errorf("Call(%.40q) of %d arguments: %v, %v", name, n, got, ok)
				}
			}
		}
	}
}

// TestLists holds that a list that is handed in stays as it is, and that nothing behind its length is read.
func TestLists(t *testing.T) {
	for _, name := range known() {
		for n := range 4 {
			list := []value.Value{num(40000), num(20000), fail(value.NA), fail(value.Cycle), num(math.MinInt64)}
			kept := slices.Clone(list)
			first, _ := nums.Call(name, list[:n])
			again, _ := nums.Call(name, slices.Clone(list[:n:n]))
			if first != again {
				t.Errorf("Call(%q) of %d arguments: %v, then %v", name, n, first, again)
			}
			if !slices.Equal(list, kept) {
				t.Errorf("Call(%q) of %d arguments changes them: %v", name, n, list)
			}
		}
	}
}

// FuzzCall looks for numbers, good or not, at which a function strays from exact arithmetic, or panics (P1).
func FuzzCall(f *testing.F) {
	f.Add(int64(20000), int64(-20000))
	f.Add(int64(api.MaxNum), int64(1))
	f.Add(int64(-1), int64(-150000))
	f.Add(int64(math.MinInt64), int64(math.MaxInt64))
	f.Fuzz(func(t *testing.T, x, y int64) {
		small := y % 20 * api.Scale // so that places and powers are met, too
		for _, p := range [][2]int64{{x, y}, {x, small}, {x % 30000, small}, {x / api.Scale * api.Scale, y / api.Scale * api.Scale}} {
			a, b := plain(p[0]), plain(p[1])
			for name, exact := range twos() {
				call(t, name, firstFail(exact.of(a.n, b.n), a, b), a.v, b.v)
			}
			for name, exact := range ones() {
				call(t, name, firstFail(exact.of(a.n), a), a.v)
			}
			call(t, "EVEN", firstFail(exactEven(a.n), a), a.v)
		}
	})
}

// plain is the guise of a number, which need not be good.
func plain(n int64) guise {
	a := fixed.Num(n)
	if a < -most || a > most {
		return guise{num(a), 0, value.Val}
	}
	return guise{num(a), a, value.None}
}
