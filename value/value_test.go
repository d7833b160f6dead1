package value_test

import (
	"bytes"
	"encoding/binary"
	"fmt"
	"math"
	"strings"
	"testing"

	"lattice/api"
	"lattice/fixed"
	"lattice/value"
)

const most = fixed.Num(api.MaxNum)

// inSigns are the errors as the document lists them, from Div0 on.
func inSigns() []string {
	return []string{"#DIV/0!", "#NUM!", "#VALUE!", "#REF!", "#NAME?", "#N/A", "#CYCLE!", "#LINK!"}
}

func long(n int) string { return strings.Repeat("x", n) }

// goods are good values of every kind, at their limits and well within, written out field by field.
func goods() []value.Value {
	all := []value.Value{{}, {Kind: value.Bool}, {Kind: value.Bool, True: true}}
	for _, n := range []fixed.Num{0, 1, -1, 255, 256, 10000, -10000, 15000, 1 << 40, -1 << 56, most - 1, most, 1 - most, -most} {
		all = append(all, value.Value{Kind: value.Number, Num: n})
	}
	for _, s := range []string{"", " ", "x", "ab", "true", "12", "#N/A", "\x00", "\xff\xfe", "Ä", "a\nb", long(254), long(255)} {
		all = append(all, value.Value{Kind: value.Text, Text: s})
	}
	for i := range inSigns() {
		all = append(all, value.Value{Kind: value.Error, Fail: value.Fail(i + 1)})
	}
	return all
}

// bads are values that aren't good: kinds that are none, fields that may not be, and fields of other kinds beside good ones.
func bads() []value.Value {
	var all []value.Value
	for _, k := range []value.Kind{-1, 5, 6, 9, 255, 256, 257, math.MaxInt, math.MinInt} {
		all = append(all, value.Value{Kind: k}, value.Value{Kind: k, Num: 1, Text: "x", True: true, Fail: value.NA})
	}
	for _, n := range []fixed.Num{most + 1, -most - 1, math.MaxInt64, math.MinInt64} {
		all = append(all, value.Value{Kind: value.Number, Num: n})
	}
	for _, n := range []int{256, 257, 511, 512, 1 << 16} {
		all = append(all, value.Value{Kind: value.Text, Text: long(n)})
	}
	for _, f := range []value.Fail{0, -1, 9, 10, 256, 257, math.MaxInt, math.MinInt} {
		all = append(all, value.Value{Kind: value.Error, Fail: f})
	}
	for _, v := range goods() {
		num, text, truth, fail := v, v, v, v
		num.Num, text.Text, truth.True, fail.Fail = 10000, "1", true, value.NA
		if v.Kind != value.Number {
			num2 := v
			num2.Num = math.MinInt64
			all = append(all, num, num2)
		}
		if v.Kind != value.Text {
			text2 := v
			text2.Text = long(300)
			all = append(all, text, text2)
		}
		if v.Kind != value.Bool {
			all = append(all, truth)
		}
		if v.Kind != value.Error {
			fail2 := v
			fail2.Fail = -1
			all = append(all, fail, fail2)
		}
	}
	return all
}

// brief keeps a complaint short where a text is long.
func brief(v value.Value) string {
	if len(v.Text) > 20 {
		return fmt.Sprintf("%d %d %d bytes %v %d", v.Kind, v.Num, len(v.Text), v.True, v.Fail)
	}
	return fmt.Sprintf("%d %d %q %v %d", v.Kind, v.Num, v.Text, v.True, v.Fail)
}

// TestNumbering holds the numbers that kinds and errors have: bytes that are kept hang on them.
func TestNumbering(t *testing.T) {
	for i, k := range []value.Kind{value.Blank, value.Number, value.Text, value.Bool, value.Error, value.Kinds} {
		if int(k) != i {
			t.Errorf("kind %d has the number %d", i, k)
		}
	}
	for i, f := range []value.Fail{value.None, value.Div0, value.Num, value.Val, value.Ref, value.Name, value.NA, value.Cycle, value.Link, value.Fails} {
		if int(f) != i {
			t.Errorf("error %d has the number %d", i, f)
		}
	}
}

// TestSigns holds P3.1's Text of errors, and of what is none.
func TestSigns(t *testing.T) {
	for i, s := range inSigns() {
		if got := value.Fail(i + 1).Text(); got != s {
			t.Errorf("Text of %d: %q; want %q", i+1, got, s)
		}
	}
	for _, f := range []value.Fail{value.None, value.Fails, -1, 10, 99, 256, 257, math.MaxInt, math.MinInt} {
		if got := f.Text(); got != "" {
			t.Errorf("Text of %d: %q", f, got)
		}
	}
}

// TestMake holds P3.1's N, T, B and E.
func TestMake(t *testing.T) {
	num := value.Value{Kind: value.Error, Fail: value.Num}
	val := value.Value{Kind: value.Error, Fail: value.Val}
	for i, x := range []struct{ got, want value.Value }{
		{value.N(0), value.Value{Kind: value.Number}},
		{value.N(15000), value.Value{Kind: value.Number, Num: 15000}},
		{value.N(-1), value.Value{Kind: value.Number, Num: -1}},
		{value.N(most), value.Value{Kind: value.Number, Num: most}},
		{value.N(-most), value.Value{Kind: value.Number, Num: -most}},
		{value.N(most + 1), num},
		{value.N(-most - 1), num},
		{value.N(math.MaxInt64), num},
		{value.N(math.MinInt64), num},
		{value.T(""), value.Value{Kind: value.Text}},
		{value.T("12"), value.Value{Kind: value.Text, Text: "12"}},
		{value.T("\xff\x00"), value.Value{Kind: value.Text, Text: "\xff\x00"}},
		{value.T(long(255)), value.Value{Kind: value.Text, Text: long(255)}},
		{value.T(long(256)), val},
		{value.T(long(1 << 20)), val},
		{value.T(strings.Repeat("ä", 127)), value.Value{Kind: value.Text, Text: strings.Repeat("ä", 127)}},
		{value.T(strings.Repeat("ä", 128)), val}, // 256 bytes
		{value.B(true), value.Value{Kind: value.Bool, True: true}},
		{value.B(false), value.Value{Kind: value.Bool}},
		{value.E(value.Div0), value.Value{Kind: value.Error, Fail: value.Div0}},
		{value.E(value.Num), num},
		{value.E(value.Val), val},
		{value.E(value.NA), value.Value{Kind: value.Error, Fail: value.NA}},
		{value.E(value.Link), value.Value{Kind: value.Error, Fail: value.Link}},
		{value.E(value.None), val},
		{value.E(value.Fails), val},
		{value.E(-1), val},
		{value.E(math.MaxInt), val},
		{value.E(math.MinInt), val},
	} {
		if x.got != x.want {
			t.Errorf("%d: %s; want %s", i, brief(x.got), brief(x.want))
		}
		if !x.got.Good() {
			t.Errorf("%d: %s isn't good", i, brief(x.got))
		}
	}
}

// TestGood holds P3.1's Good.
func TestGood(t *testing.T) {
	for _, v := range goods() {
		if !v.Good() {
			t.Errorf("%s isn't good", brief(v))
		}
	}
	for _, v := range bads() {
		if v.Good() {
			t.Errorf("%s is good", brief(v))
		}
	}
}

// TestLetters holds P3.1's Lower and Upper: at every byte, among others, and at runes that have letters of their own.
func TestLetters(t *testing.T) {
	const small, great = "abcdefghijklmnopqrstuvwxyz", "ABCDEFGHIJKLMNOPQRSTUVWXYZ"
	for i := range 256 {
		b := string([]byte{byte(i)})
		lower, upper := b, b
		if at := strings.Index(great, b); at >= 0 {
			lower = small[at : at+1]
		}
		if at := strings.Index(small, b); at >= 0 {
			upper = great[at : at+1]
		}
		if got := value.Lower(b + "Q" + b); got != lower+"q"+lower {
			t.Errorf("Lower of %q: %q", b, got)
		}
		if got := value.Upper(b + "q" + b); got != upper+"Q"+upper {
			t.Errorf("Upper of %q: %q", b, got)
		}
	}
	for _, x := range []struct{ s, lower, upper string }{
		{"", "", ""},
		{"aZ-{", "az-{", "AZ-{"},
		{"@AZ[`az{", "@az[`az{", "@AZ[`AZ{"},
		{"Äpfel", "Äpfel", "ÄPFEL"},
		{"straße \u212a \u0130 \u0131", "straße \u212a \u0130 \u0131", "STRAßE \u212a \u0130 \u0131"},
		{"\xc3A\xff", "\xc3a\xff", "\xc3A\xff"},
		{strings.Repeat("aB", 1<<16), strings.Repeat("ab", 1<<16), strings.Repeat("AB", 1<<16)},
	} {
		if lower, upper := value.Lower(x.s), value.Upper(x.s); lower != x.lower || upper != x.upper {
			t.Errorf("%.40q: %.40q, %.40q", x.s, lower, upper)
		}
	}
}

// TestShowAndAs holds P3.2 and P3.3 by answers that are written out.
func TestShowAndAs(t *testing.T) {
	type fail = value.Fail
	none, val := value.None, value.Val
	for _, x := range []struct {
		v    value.Value
		show string
		n    fixed.Num
		nf   fail
		b    bool
		bf   fail
	}{
		{value.Value{}, "", 0, none, false, none},
		{value.N(0), "0", 0, none, false, none},
		{value.N(1), "0.0001", 1, none, true, none},
		{value.N(-1), "-0.0001", -1, none, true, none},
		{value.N(15000), "1.5", 15000, none, true, none},
		{value.N(most), "900000000000000", most, none, true, none},
		{value.N(-most), "-900000000000000", -most, none, true, none},
		{value.B(true), "TRUE", 10000, none, true, none},
		{value.B(false), "FALSE", 0, none, false, none},
		{value.T(""), "", 0, val, false, val},
		{value.T(" "), " ", 0, val, false, val},
		{value.T("x"), "x", 0, val, false, val},
		{value.T("0"), "0", 0, none, false, val},
		{value.T("007.50"), "007.50", 75000, none, false, val},
		{value.T("-0.5"), "-0.5", -5000, none, false, val},
		{value.T("0.00005"), "0.00005", 1, none, false, val},
		{value.T("  12"), "  12", 120000, none, false, val},
		{value.T("12   "), "12   ", 120000, none, false, val},
		{value.T(" -1 "), " -1 ", -10000, none, false, val},
		{value.T(strings.Repeat(" ", 253) + "-1"), strings.Repeat(" ", 253) + "-1", -10000, none, false, val},
		{value.T("\t12"), "\t12", 0, val, false, val},
		{value.T("12\n"), "12\n", 0, val, false, val},
		{value.T("\u00a012"), "\u00a012", 0, val, false, val},
		{value.T("\x0012"), "\x0012", 0, val, false, val},
		{value.T("1 2"), "1 2", 0, val, false, val},
		{value.T("- 1"), "- 1", 0, val, false, val},
		{value.T("+1"), "+1", 0, val, false, val},
		{value.T("1e3"), "1e3", 0, val, false, val},
		{value.T("1."), "1.", 0, val, false, val},
		{value.T("900000000000000"), "900000000000000", most, none, false, val},
		{value.T("900000000000001"), "900000000000001", 0, val, false, val}, // layer 1 says ErrNum; a text that is no number has the error Val
		{value.T("1000000000000000000"), "1000000000000000000", 0, val, false, val},
		{value.T("true"), "true", 0, val, true, none},
		{value.T("TRUE"), "TRUE", 0, val, true, none},
		{value.T("tRuE"), "tRuE", 0, val, true, none},
		{value.T("false"), "false", 0, val, false, none},
		{value.T("FaLSE"), "FaLSE", 0, val, false, none},
		{value.T(" true"), " true", 0, val, false, val},
		{value.T("false "), "false ", 0, val, false, val},
		{value.T("tru"), "tru", 0, val, false, val},
		{value.T("1"), "1", 10000, none, false, val},
		{value.T("#N/A"), "#N/A", 0, val, false, val},
		{value.T("\xff"), "\xff", 0, val, false, val},
		{value.T(long(255)), long(255), 0, val, false, val},
		{value.N(most + 1), "#NUM!", 0, value.Num, false, value.Num},
	} {
		n, nf := x.v.AsNum()
		b, bf := x.v.AsBool()
		if show := x.v.Show(); show != x.show || n != x.n || nf != x.nf || b != x.b || bf != x.bf {
			t.Errorf("%s: %q, %d, %d, %v, %d", brief(x.v), show, n, nf, b, bf)
		}
		wantText, wantFail := x.show, none
		if x.v.Kind == value.Error {
			wantText, wantFail = "", x.v.Fail
		}
		if s, f := x.v.AsText(); s != wantText || f != wantFail {
			t.Errorf("AsText of %s: %q, %d", brief(x.v), s, f)
		}
	}
}

// onlyFails holds that v is taken for that error, whatever it is asked for.
func onlyFails(t *testing.T, v value.Value, f value.Fail) {
	t.Helper()
	if s := v.Show(); s != inSigns()[f-1] {
		t.Errorf("Show of %s: %q", brief(v), s)
	}
	if n, g := v.AsNum(); n != 0 || g != f {
		t.Errorf("AsNum of %s: %d, %d", brief(v), n, g)
	}
	if s, g := v.AsText(); s != "" || g != f {
		t.Errorf("AsText of %s: %q, %d", brief(v), s, g)
	}
	if b, g := v.AsBool(); b || g != f {
		t.Errorf("AsBool of %s: %v, %d", brief(v), b, g)
	}
	for _, w := range goods() {
		if o, g := value.Order(v, w); o != 0 || g != f {
			t.Errorf("Order(%s, %s): %d, %d", brief(v), brief(w), o, g)
		}
		want := f
		if w.Kind == value.Error {
			want = w.Fail // the first one's
		}
		if o, g := value.Order(w, v); o != 0 || g != want {
			t.Errorf("Order(%s, %s): %d, %d; want the error %d", brief(w), brief(v), o, g, want)
		}
	}
}

// TestErrors holds P3.2 to P3.4 of errors, and of values that aren't good, which count as the error Val.
func TestErrors(t *testing.T) {
	for f := value.Div0; f <= value.Link; f++ {
		onlyFails(t, value.E(f), f)
	}
	for _, v := range bads() {
		onlyFails(t, v, value.Val)
	}
	two := []value.Value{{Kind: value.Number, Num: math.MaxInt64}, {Kind: value.Error, Fail: 99}}
	if o, f := value.Order(two[0], two[1]); o != 0 || f != value.Val {
		t.Errorf("Order of two that aren't good: %d, %d", o, f)
	}
}

// TestOrder holds P3.4 at every pair of a list that stands in order, those that are the same together.
func TestOrder(t *testing.T) {
	n, s, b := value.N, value.T, value.B
	groups := [][]value.Value{
		{n(-most)}, {n(1 - most)}, {n(-10000)}, {n(-1)}, {n(0), n(0)}, {n(1)}, {n(9999)}, {n(10000)}, {n(most - 1)}, {n(most)},
		{s("")}, {s("\x00")}, {s(" ")}, {s("10")}, {s("9")}, {s("@")}, {s("[")}, {s("_")}, {s("`")}, {s("a"), s("A")}, {s("a\x00")}, {s("AB"), s("ab"), s("aB")},
		{s("b"), s("B")}, {s("false")}, {s("TRUE"), s("true")}, {s("z"), s("Z")}, {s("Z0")}, {s("{")}, {s("Ä")}, {s("ä")}, {s("\xff")}, {s("\xff\xff")},
		{b(false), b(false)}, {b(true)},
	}
	for i, these := range groups {
		for k, those := range groups {
			want := 0
			if i < k {
				want = -1
			} else if i > k {
				want = 1
			}
			for _, v := range these {
				for _, w := range those {
					if o, f := value.Order(v, w); o != want || f != value.None {
						t.Errorf("Order(%s, %s): %d, %d; want %d", brief(v), brief(w), o, f, want)
					}
				}
			}
		}
	}
}

// TestOrderOfBlanks holds what P3.4 says of a blank one, from both sides.
func TestOrderOfBlanks(t *testing.T) {
	blank := value.Value{}
	for _, x := range []struct {
		v    value.Value
		want int
	}{
		{blank, 0},
		{value.N(0), 0}, {value.N(1), -1}, {value.N(-1), 1}, {value.N(most), -1}, {value.N(-most), 1},
		{value.T(""), 0}, {value.T("\x00"), -1}, {value.T("a"), -1}, {value.T(long(255)), -1},
		{value.B(false), 0}, {value.B(true), -1},
	} {
		if o, f := value.Order(blank, x.v); o != x.want || f != value.None {
			t.Errorf("Order(blank, %s): %d, %d; want %d", brief(x.v), o, f, x.want)
		}
		if o, f := value.Order(x.v, blank); o != -x.want || f != value.None {
			t.Errorf("Order(%s, blank): %d, %d; want %d", brief(x.v), o, f, -x.want)
		}
	}
}

// TestRead holds P3.5's Read.
func TestRead(t *testing.T) {
	for _, x := range []struct {
		s    string
		want value.Value
	}{
		{"", value.Value{}},
		{"0", value.N(0)},
		{"-0", value.N(0)},
		{"1.50", value.N(15000)},
		{"-12.34567", value.N(-123457)},
		{"007", value.N(70000)},
		{"900000000000000", value.N(most)},
		{"-900000000000000.00004", value.N(-most)},
		{"900000000000001", value.T("900000000000001")}, // Parse tells no number of it
		{"999999999999999999", value.T("999999999999999999")},
		{"9999999999999999999", value.T("9999999999999999999")},
		{" 1", value.T(" 1")},
		{"1 ", value.T("1 ")},
		{"+1", value.T("+1")},
		{".5", value.T(".5")},
		{"-", value.T("-")},
		{"=1", value.T("=1")},
		{"true", value.B(true)},
		{"TRUE", value.B(true)},
		{"TrUe", value.B(true)},
		{"false", value.B(false)},
		{"FALSE", value.B(false)},
		{"fALSe", value.B(false)},
		{" true", value.T(" true")},
		{"true ", value.T("true ")},
		{"truex", value.T("truex")},
		{"#n/a", value.T("#n/a")},
		{"#N/A ", value.T("#N/A ")},
		{" #N/A", value.T(" #N/A")},
		{"#N/A!", value.T("#N/A!")},
		{"#", value.T("#")},
		{" ", value.T(" ")},
		{"\x00", value.T("\x00")},
		{"\xff\xfe", value.T("\xff\xfe")},
		{long(255), value.T(long(255))},
		{long(256), value.E(value.Val)},
		{strings.Repeat("1", 256), value.E(value.Val)},
		{long(1 << 20), value.E(value.Val)},
	} {
		if v := value.Read(x.s); v != x.want {
			t.Errorf("Read(%.40q): %s; want %s", x.s, brief(v), brief(x.want))
		}
	}
	for i, s := range inSigns() {
		if v := value.Read(s); v != value.E(value.Fail(i+1)) {
			t.Errorf("Read(%q): %s", s, brief(v))
		}
		if v := value.Read(strings.ToLower(s) + "x"); v != value.T(strings.ToLower(s)+"x") {
			t.Errorf("Read of what is nearly %q: %s", s, brief(v))
		}
	}
}

// wantPut are the bytes of a good value, made by means of the library.
func wantPut(v value.Value) string {
	var b bytes.Buffer
	b.WriteByte(byte(v.Kind))
	switch v.Kind {
	case value.Number:
		binary.Write(&b, binary.BigEndian, int64(v.Num))
	case value.Text:
		b.WriteByte(byte(len(v.Text)))
		b.WriteString(v.Text)
	case value.Bool:
		binary.Write(&b, binary.BigEndian, v.True)
	case value.Error:
		b.WriteByte(byte(v.Fail))
	}
	return b.String()
}

// getFails holds that there is no value at a place, and that nothing is told beside that.
func getFails(t *testing.T, s string, at int, want api.Errno) {
	t.Helper()
	if v, n, e := value.Get(s, at); v != (value.Value{}) || n != 0 || e != want {
		t.Errorf("Get(%.40q, %d): %s, %d, %d; want the error %d", s, at, brief(v), n, e, want)
	}
}

// TestPutAndGet holds P3.5's Put, and that Get tells of its bytes, wherever they stand, the same value; of fewer none.
func TestPutAndGet(t *testing.T) {
	for _, v := range goods() {
		s, e := v.Put()
		if s != wantPut(v) || e != api.OK {
			t.Errorf("Put of %s: %x, %d", brief(v), s, e)
			continue
		}
		for _, ahead := range []string{"", "\x00", "\x01\x02\x03"} {
			for _, behind := range []string{"", "\x00", "\xff\x02\x01"} {
				if w, n, e := value.Get(ahead+s+behind, len(ahead)); w != v || n != len(ahead+s) || e != api.OK {
					t.Errorf("Get of %x between %x and %x: %s, %d, %d", s, ahead, behind, brief(w), n, e)
				}
			}
			for k := range len(s) {
				getFails(t, ahead+s[:k], len(ahead), api.ErrForm)
			}
		}
	}
	for _, v := range bads() {
		if s, e := v.Put(); s != "" || e != api.ErrForm {
			t.Errorf("Put of %s: %x, %d", brief(v), s, e)
		}
	}
}

// TestBytesByHand has P3.5's bytes written out.
func TestBytesByHand(t *testing.T) {
	for _, x := range []struct {
		v value.Value
		s string
	}{
		{value.Value{}, "\x00"},
		{value.N(10000), "\x01\x00\x00\x00\x00\x00\x00\x27\x10"},
		{value.N(-1), "\x01\xff\xff\xff\xff\xff\xff\xff\xff"},
		{value.N(0x0123456789abcdef), "\x01\x01\x23\x45\x67\x89\xab\xcd\xef"},
		{value.N(most), "\x01\x7c\xe6\x6c\x50\xe2\x84\x00\x00"},
		{value.N(-most), "\x01\x83\x19\x93\xaf\x1d\x7c\x00\x00"},
		{value.T(""), "\x02\x00"},
		{value.T("ab"), "\x02\x02ab"},
		{value.T(long(255)), "\x02\xff" + long(255)},
		{value.B(false), "\x03\x00"},
		{value.B(true), "\x03\x01"},
		{value.E(value.Div0), "\x04\x01"},
		{value.E(value.Link), "\x04\x08"},
	} {
		if s, e := x.v.Put(); s != x.s || e != api.OK {
			t.Errorf("Put of %s: %x, %d; want %x", brief(x.v), s, e, x.s)
		}
		if v, n, e := value.Get(x.s, 0); v != x.v || n != len(x.s) || e != api.OK {
			t.Errorf("Get of %x: %s, %d, %d", x.s, brief(v), n, e)
		}
	}
}

// TestGetOfWrongBytes holds P3.5's errors of Get, and which of both goes ahead.
func TestGetOfWrongBytes(t *testing.T) {
	for _, s := range []string{"", "\x00", "\x05", "\x00\x00\x00"} {
		for _, at := range []int{-1, -2, len(s) + 1, len(s) + 2, math.MaxInt, math.MaxInt - 1, math.MinInt} {
			getFails(t, s, at, api.ErrRange)
		}
		getFails(t, s, len(s), api.ErrForm)
	}
	for b := 5; b < 256; b++ { // kinds that are none
		getFails(t, string([]byte{byte(b)})+strings.Repeat("\x01", 300), 0, api.ErrForm)
	}
	for b := range 256 {
		last := string([]byte{byte(b)})
		if b > 1 {
			getFails(t, "\x03"+last+"\x01", 0, api.ErrForm)
		}
		if b == 0 || b > 8 {
			getFails(t, "\x04"+last+"\x01", 0, api.ErrForm)
		}
		if b > 0 {
			getFails(t, "\x02"+last+long(b-1), 0, api.ErrForm)
		}
	}
	for _, s := range []string{
		"\x01\x7c\xe6\x6c\x50\xe2\x84\x00\x01", // MaxNum and one part
		"\x01\x83\x19\x93\xaf\x1d\x7b\xff\xff",
		"\x01\x7f\xff\xff\xff\xff\xff\xff\xff",
		"\x01\x80\x00\x00\x00\x00\x00\x00\x00",
	} {
		getFails(t, s, 0, api.ErrForm)
		getFails(t, s+"\x00", 0, api.ErrForm)
	}
}

// FuzzGet holds P3.5's Get at any bytes: what it tells is good, and has just those bytes.
func FuzzGet(f *testing.F) {
	for _, v := range goods() {
		f.Add(wantPut(v), 0)
	}
	f.Add("\x03\x02", 1)
	f.Add("\x00", -1)
	f.Fuzz(func(t *testing.T, s string, at int) {
		v, n, e := value.Get(s, at)
		switch {
		case at < 0 || at > len(s):
			getFails(t, s, at, api.ErrRange)
		case e == api.OK:
			if !v.Good() || n <= at || n > len(s) || wantPut(v) != s[at:n] {
				t.Errorf("Get(%x, %d): %s, %d", s, at, brief(v), n)
			}
		default:
			getFails(t, s, at, api.ErrForm)
			for _, w := range goods() {
				if strings.HasPrefix(s[at:], wantPut(w)) {
					t.Errorf("Get(%x, %d) is refused, but %s stands there", s, at, brief(w))
				}
			}
		}
	})
}

// FuzzRead holds, at any text, that what Read tells is good, is what it shows, and is read alike once more.
func FuzzRead(f *testing.F) {
	for _, s := range append(inSigns(), "", "1.50", "tRUE", "fALSe", "-0", "x", long(256)) {
		f.Add(s)
	}
	f.Fuzz(func(t *testing.T, s string) {
		v := value.Read(s)
		if !v.Good() {
			t.Errorf("Read(%q): %s isn't good", s, brief(v))
		}
		if v.Kind == value.Text && v.Text != s {
			t.Errorf("Read(%q): %s", s, brief(v))
		}
		if w := value.Read(v.Show()); w != v {
			t.Errorf("Read(%q): %s, and of what that shows: %s", s, brief(v), brief(w))
		}
		if o, e := value.Order(v, v); o != 0 || e != v.Fail {
			t.Errorf("Order of %s and itself: %d, %d", brief(v), o, e)
		}
		if lower := value.Lower(s); len(lower) != len(s) || value.Lower(value.Upper(s)) != lower {
			t.Errorf("Lower(%q): %q", s, lower)
		}
	})
}
