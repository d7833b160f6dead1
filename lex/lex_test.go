package lex_test

import (
	"math"
	"regexp"
	"slices"
	"strings"
	"testing"

	"lattice/addr"
	"lattice/api"
	"lattice/fixed"
	"lattice/lex"
	"lattice/value"
)

// The tokens of tests, without their places.

func num(parts fixed.Num) lex.Token   { return lex.Token{Kind: lex.Number, Num: parts} }
func text(s string) lex.Token         { return lex.Token{Kind: lex.Text, Text: s} }
func fail(f value.Fail) lex.Token     { return lex.Token{Kind: lex.Fail, Fail: f} }
func word(s string) lex.Token         { return lex.Token{Kind: lex.Word, Text: s} }
func op(s string) lex.Token           { return lex.Token{Kind: lex.Op, Text: s} }
func full(f addr.Full) lex.Token      { return lex.Token{Kind: lex.Ref, Ref: f} }
func sign(k lex.Kind) lex.Token       { return lex.Token{Kind: k} }
func at(t lex.Token, p int) lex.Token { t.At = p; return t }

// cell is a reference to one cell that isn't fixed, of this sheet.
func cell(col, row int) lex.Token { return full(addr.Full{From: ref(col, row, false, false)}) }

func ref(col, row int, fixCol, fixRow bool) addr.Ref {
	return addr.Ref{Cell: addr.Cell{Col: col, Row: row}, FixCol: fixCol, FixRow: fixRow}
}

// placed are the tokens l, of which the first begins at the first place, and so on.
func placed(l []lex.Token, places ...int) []lex.Token {
	var all []lex.Token
	for i, t := range l {
		all = append(all, at(t, places[i]))
	}
	return all
}

// unplaced are the tokens without their places.
func unplaced(l []lex.Token) []lex.Token {
	var all []lex.Token
	for _, t := range l {
		all = append(all, at(t, 0))
	}
	return all
}

// hold holds that Lex tells just these tokens, with their places.
func hold(t *testing.T, s string, want ...lex.Token) {
	t.Helper()
	if l, p, e := lex.Lex(s); !slices.Equal(l, want) || p != 0 || e != api.OK {
		t.Errorf("Lex(%.80q): %v, %d, %d; want %v", s, l, p, e, want)
	}
}

// refused holds that Lex tells no token, but that place and that error.
func refused(t *testing.T, s string, place int, want api.Errno) {
	t.Helper()
	if l, p, e := lex.Lex(s); len(l) != 0 || p != place || e != want {
		t.Errorf("Lex(%.80q): %v, %d, %d; want %d, %d", s, l, p, e, place, want)
	}
}

// TestExample holds P5.1 at the document's example, place by place.
func TestExample(t *testing.T) {
	hold(t, `SUM(a1:B2,"x""y")<=1.50`, placed([]lex.Token{
		word("SUM"), sign(lex.Open), full(addr.Full{From: ref(0, 0, false, false), To: ref(1, 1, false, false), Wide: true}),
		sign(lex.Comma), text(`x"y`), sign(lex.Close), op("<="), num(15000),
	}, 0, 3, 4, 9, 10, 16, 17, 19)...)
}

// TestKinds holds the order in which the kinds are numbered.
func TestKinds(t *testing.T) {
	for i, k := range []lex.Kind{lex.Number, lex.Text, lex.Fail, lex.Ref, lex.Word, lex.Op, lex.Open, lex.Close, lex.Comma, lex.Kinds} {
		if int(k) != i {
			t.Errorf("kind %d is %d", i, k)
		}
	}
}

// TestBlanks holds P5.1 of blanks: they are passed over, no other byte is, and they part what would be one.
func TestBlanks(t *testing.T) {
	hold(t, "")
	hold(t, " ")
	hold(t, strings.Repeat(" ", 512))
	hold(t, "  1  +  x  ", at(num(10000), 2), at(op("+"), 5), at(word("X"), 8))
	hold(t, "1 2", at(num(10000), 0), at(num(20000), 2))
	hold(t, "a b", at(word("A"), 0), at(word("B"), 2))
	hold(t, "< = < > > =", placed([]lex.Token{op("<"), op("="), op("<"), op(">"), op(">"), op("=")}, 0, 2, 4, 6, 8, 10)...)
	hold(t, `"a" "b"`, at(text("a"), 0), at(text("b"), 4))
	hold(t, strings.Repeat(" ", 511)+"1", at(num(10000), 511))
	for _, b := range []string{"\t", "\n", "\r", "\v", "\f", "\x00", "\u00a0", "\u2003"} {
		refused(t, b, 0, api.ErrForm)
		refused(t, "1 "+b+" 2", 2, api.ErrForm)
	}
	refused(t, "A1 :B2", 3, api.ErrForm)
	refused(t, "A1: B2", 0, api.ErrForm)
	refused(t, "1 .5", 2, api.ErrForm)
	refused(t, "1. 5", 0, api.ErrForm)
	refused(t, "# N/A", 0, api.ErrForm)
	refused(t, "#N /A", 0, api.ErrForm)
}

// TestNumbers holds P5.1 of Numbers: the longest run of digits and full stops, read by layer 1.
func TestNumbers(t *testing.T) {
	for s, want := range map[string]fixed.Num{
		"0": 0, "7": 70000, "1.50": 15000, "007": 70000, "0.00004": 0, "0.00005": 1, "1.99995": 20000, "3.0000": 30000, "900000000000000": 9000000000000000000, "000000000000000001": 10000, "0.123456789012345678": 1235,
	} {
		hold(t, s, num(want))
		hold(t, " "+s+" ", at(num(want), 1))
		hold(t, "-"+s, op("-"), at(num(want), 1))
		hold(t, s+"-"+s, num(want), at(op("-"), len(s)), at(num(want), len(s)+1))
	}
	hold(t, "1a", num(10000), at(word("A"), 1))
	hold(t, "1e5", num(10000), at(cell(4, 4), 1))
	hold(t, "2_", num(20000), at(word("_"), 1))
	hold(t, `1"x"`, num(10000), at(text("x"), 1))
	for _, s := range []string{"1.", "1..", "1..2", "1.2.3", "1.2.", "0000000000000000001", "1.0000000000000000001", strings.Repeat("9", 512)} {
		refused(t, s, 0, api.ErrForm)
		if len(s) < 500 {
			refused(t, "x+ "+s, 3, api.ErrForm)
		}
	}
	for _, s := range []string{"9999999999999999", "900000000000001", "900000000000000.0001", "900000000000000.00005", "999999999999999999"} {
		refused(t, s, 0, api.ErrNum)
		refused(t, "1  "+s, 3, api.ErrNum)
	}
	refused(t, ".5", 0, api.ErrForm)
	refused(t, "1+.5", 2, api.ErrForm)
	refused(t, ".", 0, api.ErrForm)
}

// TestTexts holds P5.1 of Texts: where they end, and what they have.
func TestTexts(t *testing.T) {
	for s, want := range map[string]string{
		`""`: "", `" "`: " ", `"a"`: "a", `""""`: `"`, `""""""`: `""`, `"a""b"`: `a"b`, `"""a"`: `"a`, `"a"""`: `a"`, `"a"""""`: `a""`, `"aB1+(,"`: "aB1+(,", `"#N/A"`: "#N/A",
		"\"\x00\xff\n\"": "\x00\xff\n", `"ä€"`: "ä€", "\"\xc3\"": "\xc3", `"'"`: "'", `"\"`: `\`, `"=1"`: "=1",
	} {
		hold(t, s, text(want))
		hold(t, "  "+s, at(text(want), 2))
		hold(t, s+"&"+s, text(want), at(op("&"), len(s)), at(text(want), len(s)+1))
	}
	hold(t, `"a"b`, text("a"), at(word("B"), 3))
	hold(t, `""1`, text(""), at(num(10000), 2))
	hold(t, `"" ""`, text(""), at(text(""), 3))
	for _, s := range []string{`"`, `"a`, `"""`, `"a""`, `"""""`, `"""a`, `"a""b`, `" `, "\"\n"} {
		refused(t, s, 0, api.ErrForm)
		refused(t, "1&"+s, 2, api.ErrForm)
		refused(t, `"" `+s, 3, api.ErrForm)
	}
}

// TestLongTexts holds P5.1 of Texts at MaxText, which counts what a Text has, not how it is written.
func TestLongTexts(t *testing.T) {
	for _, n := range []int{254, 255} {
		hold(t, `"`+strings.Repeat("x", n)+`"`, text(strings.Repeat("x", n)))
		hold(t, `"`+strings.Repeat(`""`, n)+`"`, text(strings.Repeat(`"`, n)))
		hold(t, ` "`+strings.Repeat("x", n-1)+`"""`, at(text(strings.Repeat("x", n-1)+`"`), 1))
	}
	for _, n := range []int{256, 257, 400, 507} {
		refused(t, `"`+strings.Repeat("x", n)+`"`, 0, api.ErrLong)
		refused(t, `1&"`+strings.Repeat("x", n)+`"`, 2, api.ErrLong)
		refused(t, `1&"`+strings.Repeat("x", n), 2, api.ErrForm)
		refused(t, `"`+strings.Repeat("x", n)+`""`, 0, api.ErrForm)
		refused(t, `"`+strings.Repeat("x", n-1)+`"""`, 0, api.ErrLong)
	}
}

// TestFails holds P5.1 of Fails: exactly the errors in signs.
func TestFails(t *testing.T) {
	signs := []string{"#DIV/0!", "#NUM!", "#VALUE!", "#REF!", "#NAME?", "#N/A", "#CYCLE!", "#LINK!"}
	for i, s := range signs {
		f := fail(value.Div0 + value.Fail(i))
		hold(t, s, f)
		hold(t, " "+s+s, at(f, 1), at(f, 1+len(s)))
		hold(t, s+"a1", f, at(cell(0, 0), len(s)))
		hold(t, "1"+s+"2", num(10000), at(f, 1), at(num(20000), 1+len(s)))
		refused(t, strings.ToLower(s), 0, api.ErrForm)
		for n := range s {
			if n > 0 {
				refused(t, "1+"+s[:n], 2, api.ErrForm)
				refused(t, s[:n]+" "+s[n:], 0, api.ErrForm)
			}
		}
	}
	for _, s := range []string{"#", "##", "#N", "#NA", "#N/a", "#n/a", "#REF", "#REF?", "#NAME!", "#DIV/0", "#DIV0!", "#ERROR!", "#SPILL!", "# ", "##N/A"} {
		refused(t, s, 0, api.ErrForm)
		refused(t, "( "+s, 2, api.ErrForm)
	}
}

// TestWords holds P5.1 of Words: names, in great letters, of whatever size, with and without a parenthesis behind.
func TestWords(t *testing.T) {
	for s, want := range map[string]string{
		"x": "X", "TRUE": "TRUE", "true": "TRUE", "Sum": "SUM", "_": "_", "_a": "_A", "a_1": "A_1", "abcdefghijklmnop": "ABCDEFGHIJKLMNOP", "_1": "_1", "a1b": "A1B", "A0": "A0", "a01": "A01", "abcd1": "ABCD1", "A100000": "A100000", "zzz": "ZZZ",
	} {
		hold(t, s, word(want))
		hold(t, s+"()", word(want), at(sign(lex.Open), len(s)), at(sign(lex.Close), len(s)+1))
		hold(t, "-"+s+" ", op("-"), at(word(want), 1))
	}
	for _, s := range []string{"a1", "log10", "BM1", "zzz99999", "A1025", "bl1024"} { // cells, there or not, that are called
		for _, blanks := range []string{"", " ", "      "} {
			hold(t, s+blanks+"(", word(strings.ToUpper(s)), at(sign(lex.Open), len(s+blanks)))
		}
	}
	refused(t, "log10\t(", 0, api.ErrRange)
	refused(t, "log10)(", 0, api.ErrRange)
	refused(t, "log10,(", 0, api.ErrRange)
	hold(t, "a1)(", cell(0, 0), at(sign(lex.Close), 2), at(sign(lex.Open), 3))
	for _, s := range []string{"abcdefghijklmnopq", "_bcdefghijklmnopq", "a$", "a!", "a:", "a]", "a[", "a!b", "a:b", "a[b]", "_!", "_$1", "a1!", "[", "[]", "[a", "[a]", "[a]b", "$", "$$", "$a", "$1", "$_", "a$1$", "A1:B", "A1:", "A1:B2:C3", strings.Repeat("a", 512)} {
		refused(t, s, 0, api.ErrForm)
		if len(s) < 500 {
			refused(t, "1+"+s, 2, api.ErrForm)
			refused(t, s+"(1)", 0, api.ErrForm)
		}
	}
	for _, s := range []string{"é", "\xc3", "!", ":", "]", "!a", ":a1", "]a"} {
		refused(t, s, 0, api.ErrForm)
	}
	refused(t, "aé", 1, api.ErrForm)
	refused(t, "a+\u0410", 2, api.ErrForm)
}

// TestRefs holds P5.1 of Refs: as layer 4 tells them, and its errors.
func TestRefs(t *testing.T) {
	a1, c9 := ref(0, 0, false, false), ref(2, 8, true, true)
	for s, want := range map[string]addr.Full{
		"A1": {From: a1}, "a1": {From: a1}, "$c$9": {From: c9}, "bL1024": {From: ref(63, 1023, false, false)}, "$a1": {From: ref(0, 0, true, false)}, "a$1": {From: ref(0, 0, false, true)},
		"s!a1": {Sheet: "s", From: a1}, "_x!$C$9": {Sheet: "_x", From: c9}, "[b]S!a1": {Book: "b", Sheet: "S", From: a1}, "A1!A1": {Sheet: "A1", From: a1},
		"A1:A1": {From: a1, To: a1, Wide: true}, "$c$9:a1": {From: a1, To: c9, Wide: true}, "[B1]S!$c$9:A1": {Book: "B1", Sheet: "S", From: a1, To: c9, Wide: true}, "A1:BL64": {From: a1, To: ref(63, 63, false, false), Wide: true},
	} {
		hold(t, s, full(want))
		hold(t, "  "+s+"%", at(full(want), 2), at(op("%"), 2+len(s)))
		if !addr.Name(s) {
			hold(t, s+" (", full(want), at(sign(lex.Open), 1+len(s)))
		}
	}
	for _, s := range []string{"BM1", "a1025", "log10", "$zzz$99999", "S!BM1", "[B]S!A1:BM1", "A1:A1025"} {
		refused(t, s, 0, api.ErrRange)
		refused(t, "1+ "+s, 3, api.ErrRange)
	}
	for _, s := range []string{"A1:BL65", "BL65:A1", "s!a1:e1024", "[B]S!$A$1:$BL$1024"} {
		refused(t, s, 0, api.ErrLong)
		refused(t, "1+ "+s+" (", 3, api.ErrLong)
	}
	refused(t, "S!BM1(", 0, api.ErrRange)
	refused(t, "$BM1 (", 0, api.ErrRange)
}

// TestOps holds P5.1 of operators and the other signs: of two that may be one, both.
func TestOps(t *testing.T) {
	for _, s := range strings.Fields("+ - * / ^ & = % < > <= >= <>") {
		hold(t, s, op(s))
		hold(t, " "+s+"1", at(op(s), 1), at(num(10000), 1+len(s)))
	}
	for s, want := range map[string]string{
		"<=>": "<= >", "<>=": "<> =", ">=<": ">= <", "><": "> <", "=<": "= <", "=>": "= >", "==": "= =", "<<": "< <", "<<=": "< <=", ">>=": "> >=", "<<>": "< <>", "<>>": "<> >", "<=<>>=<>": "<= <> >= <>", "++": "+ +", "--1": "- - 1", "&&": "& &", "%%": "% %", "*-": "* -", "^^": "^ ^", "//": "/ /",
	} {
		l, p, e := lex.Lex(s)
		if lex.Join(l) != want || p != 0 || e != api.OK {
			t.Errorf("Lex(%q): %q, %d, %d; want %q", s, lex.Join(l), p, e, want)
		}
		for _, x := range l {
			if !strings.HasPrefix(s[x.At:], x.Show()) {
				t.Errorf("Lex(%q): %q at %d", s, x.Show(), x.At)
			}
		}
	}
	hold(t, "((,))", placed([]lex.Token{sign(lex.Open), sign(lex.Open), sign(lex.Comma), sign(lex.Close), sign(lex.Close)}, 0, 1, 2, 3, 4)...)
}

// TestBytes holds P5.1 at each byte that nothing begins with, wherever it stands.
func TestBytes(t *testing.T) {
	const begins = `ABCDEFGHIJKLMNOPQRSTUVWXYZabcdefghijklmnopqrstuvwxyz_0123456789+-*/^&=%<>(), `
	for i := range 256 {
		b := string([]byte{byte(i)})
		l, p, e := lex.Lex("1 " + b)
		switch {
		case strings.Contains(begins, b):
			if e != api.OK || p != 0 || b != " " && len(l) != 2 {
				t.Errorf("byte %d: %v, %d, %d", i, l, p, e)
			}
		default: // also of those that more must stand behind
			refused(t, b, 0, api.ErrForm)
			refused(t, "1 "+b, 2, api.ErrForm)
			refused(t, "1+ "+b+" @", 3, api.ErrForm)
		}
	}
}

// TestFirstPlace holds P5.1's order: the first place that is wrong is told, and the length ahead of all.
func TestFirstPlace(t *testing.T) {
	refused(t, "@ BM1", 0, api.ErrForm)
	refused(t, "BM1 @", 0, api.ErrRange)
	refused(t, "1 A1:BL65 BM1 @", 2, api.ErrLong)
	refused(t, "9999999999999999 @", 0, api.ErrNum)
	refused(t, `1 "a @ 1.2.3`, 2, api.ErrForm)
	refused(t, strings.Repeat("1+", 255)+"@", 510, api.ErrForm)
	hold(t, strings.Repeat(" ", 510)+"<=", at(op("<="), 510))
	refused(t, strings.Repeat(" ", 511)+"@", 511, api.ErrForm)
	if l, p, e := lex.Lex(strings.Repeat("(", 512)); len(l) != 512 || l[511] != at(sign(lex.Open), 511) || p != 0 || e != api.OK {
		t.Errorf("512 parentheses: %d, %d, %d", len(l), p, e)
	}
	for _, s := range []string{" ", "@", "1", "BM1", `"`, "(", "a", "\xff"} {
		refused(t, strings.Repeat(s, 513)[:513], 0, api.ErrLong)
		refused(t, strings.Repeat(s, 1<<16), 0, api.ErrLong)
	}
	refused(t, "1"+strings.Repeat(" ", 512), 0, api.ErrLong)
}

// TestShow holds P5.2's Show, of tokens that Lex tells and of others.
func TestShow(t *testing.T) {
	long := strings.Repeat(`x"`, 1<<16)
	for _, x := range []struct {
		t    lex.Token
		want string
	}{
		{num(15000), "1.5"}, {num(0), "0"}, {num(-12300), "-1.23"}, {num(9000000000000000000), "900000000000000"}, {num(9000000000000000001), ""}, {num(math.MinInt64), ""}, {num(math.MaxInt64), ""},
		{text(""), `""`}, {text("x"), `"x"`}, {text(`"`), `""""`}, {text(`x"y`), `"x""y"`}, {text(`""`), `""""""`}, {text("\x00\xff"), "\"\x00\xff\""}, {text(long), `"` + strings.Repeat(`x""`, 1<<16) + `"`},
		{fail(value.Div0), "#DIV/0!"}, {fail(value.NA), "#N/A"}, {fail(value.Link), "#LINK!"}, {fail(value.None), ""}, {fail(value.Fails), ""}, {fail(-1), ""}, {fail(math.MaxInt), ""}, {fail(math.MinInt), ""},
		{cell(0, 0), "A1"}, {full(addr.Full{Book: "B1", Sheet: "S", To: ref(2, 8, true, true), Wide: true}), "[B1]S!A1:$C$9"}, {cell(-1, 0), ""}, {cell(0, 1024), ""}, {full(addr.Full{Book: "B"}), ""},
		{word("SUM"), "SUM"}, {word("sum"), "sum"}, {word(""), ""}, {word(long), long}, {op("<="), "<="}, {op("+"), "+"}, {op("?"), "?"}, {op(""), ""},
		{sign(lex.Open), "("}, {sign(lex.Close), ")"}, {sign(lex.Comma), ","},
		{sign(lex.Kinds), ""}, {sign(lex.Kinds + 1), ""}, {sign(-1), ""}, {sign(math.MaxInt), ""}, {sign(math.MinInt), ""},
	} {
		if got := x.t.Show(); got != x.want {
			t.Errorf("%.80v: %.80q; want %.80q", x.t, got, x.want)
		}
	}
	for k, want := range map[lex.Kind]string{lex.Number: "2", lex.Text: `"t"`, lex.Fail: "#REF!", lex.Ref: "B1", lex.Word: "t", lex.Op: "t", lex.Open: "(", lex.Close: ")", lex.Comma: ",", lex.Kinds: "", -1: ""} {
		all := lex.Token{Kind: k, Text: "t", Num: 20000, Fail: value.Ref, Ref: addr.Full{From: ref(1, 0, false, false)}, At: -7}
		if got := all.Show(); got != want {
			t.Errorf("with all fields set, kind %d: %q; want %q", k, got, want)
		}
	}
}

// TestJoin holds P5.2's Join: a blank between each two, also where nothing is shown.
func TestJoin(t *testing.T) {
	none := sign(lex.Kinds)
	for _, x := range []struct {
		l    []lex.Token
		want string
	}{
		{nil, ""}, {[]lex.Token{}, ""}, {[]lex.Token{none}, ""}, {[]lex.Token{none, none}, " "}, {[]lex.Token{num(10000), none, num(20000)}, "1  2"},
		{[]lex.Token{op("+")}, "+"}, {[]lex.Token{op("<"), op("=")}, "< ="}, {[]lex.Token{text(" "), word("A"), none}, `" " A `}, {[]lex.Token{word("SUM"), sign(lex.Open), sign(lex.Close)}, "SUM ( )"},
		{slices.Repeat([]lex.Token{sign(lex.Comma)}, 1<<16), strings.Repeat(", ", 1<<16)[:1<<17-1]},
	} {
		kept := slices.Clone(x.l)
		if got := lex.Join(x.l); got != x.want {
			t.Errorf("Join(%.80v): %.80q; want %.80q", x.l, got, x.want)
		}
		if !slices.Equal(kept, x.l) {
			t.Errorf("Join(%.80v): the list is another one", kept)
		}
	}
	behind := []lex.Token{op("+"), op("-")}
	if got := lex.Join(behind[:1]); got != "+" {
		t.Errorf("what lies behind the list: %q", got)
	}
}

// TestTokensAreNew holds that what is answered is nobody else's.
func TestTokensAreNew(t *testing.T) {
	one, _, _ := lex.Lex("1+x")
	two, _, _ := lex.Lex("1+x")
	for i := range one {
		one[i] = sign(lex.Comma)
	}
	if lex.Join(two) != "1 + X" {
		t.Errorf("another list's tokens are %q", lex.Join(two))
	}
	hold(t, "1+x", num(10000), at(op("+"), 1), at(word("X"), 2))
}

// model tells the tokens by the document's words as patterns, without the package.
type model struct {
	number, text, fail, run, op *regexp.Regexp
}

func newModel() model {
	at := func(s string) *regexp.Regexp { return regexp.MustCompile(`\A` + s) }
	return model{
		at(`[0-9][0-9.]*`), at(`("(?:[^"]|"")*")(?:[^"]|\z)`), at(`#(?:DIV/0!|NUM!|VALUE!|REF!|NAME\?|N/A|CYCLE!|LINK!)`),
		at(`[A-Za-z_$\[][A-Za-z0-9_$\[\]!:]*`), at(`(?:<=|>=|<>|[-+*/^&=%<>])`),
	}
}

// first is the token at the beginning of s, and how many bytes it has.
func (m model) first(s string) (lex.Token, int, api.Errno) {
	if run := m.number.FindString(s); run != "" {
		n, e := fixed.Parse(run)
		return num(n), len(run), e
	}
	if found := m.text.FindStringSubmatch(s); found != nil {
		inner := strings.ReplaceAll(found[1][1:len(found[1])-1], `""`, `"`)
		if len(inner) > 255 {
			return lex.Token{}, 0, api.ErrLong
		}
		return text(inner), len(found[1]), api.OK
	}
	if run := m.fail.FindString(s); run != "" {
		return fail(value.Read(run).Fail), len(run), api.OK
	}
	if run := m.run.FindString(s); run != "" {
		t, e := called(run, strings.HasPrefix(strings.TrimLeft(s[len(run):], " "), "("))
		return t, len(run), e
	}
	if run := m.op.FindString(s); run != "" {
		return op(run), len(run), api.OK
	}
	if k := strings.IndexByte("(),", s[0]); k >= 0 {
		return sign(lex.Open + lex.Kind(k)), 1, api.OK
	}
	return lex.Token{}, 0, api.ErrForm
}

// called is the token of a run of what names have.
func called(run string, open bool) (lex.Token, api.Errno) {
	f, e := addr.Parse(run)
	if isName := addr.Name(run); isName && (open || e == api.ErrForm) {
		return word(strings.ToUpper(run)), api.OK
	}
	return full(f), e
}

// hold holds P5.1 at any text against the model, and P5.3, if it is a formula.
func (m model) hold(t *testing.T, s string) {
	t.Helper()
	if t.Failed() {
		t.FailNow() // a fault would be told of thousands of texts
	}
	if len(s) > 512 {
		refused(t, s, 0, api.ErrLong)
		return
	}
	var want []lex.Token
	for p := 0; p < len(s); {
		if s[p] == ' ' {
			p++
			continue
		}
		x, size, e := m.first(s[p:])
		if e != api.OK {
			refused(t, s, p, e)
			return
		}
		want = append(want, at(x, p))
		p += size
	}
	hold(t, s, want...)
	again(t, s)
}

// again holds P5.3: the tokens of Join of a formula's tokens are these, at the places where they are shown.
func again(t *testing.T, s string) {
	t.Helper()
	l, _, _ := lex.Lex(s)
	joined := lex.Join(l)
	if len(joined) > api.MaxFormula { // then it is no formula
		refused(t, joined, 0, api.ErrLong)
		return
	}
	p := 0
	var want []lex.Token
	for _, x := range l {
		want = append(want, at(x, p))
		p += len(x.Show()) + 1
	}
	hold(t, joined, want...)
}

// TestAgain holds P5.3 at formulas of all kinds of tokens, the longest ones too.
func TestAgain(t *testing.T) {
	for _, s := range []string{
		"", "  ", "SUM(a1:B2,\"x\"\"y\")<=1.50", "log10 (1)+A1 (2)-a1", "007.10e5", "#N/A#REF!#NAME?", "<=><>=< = < >", `""""""&"a""b"`, "[B]S!$c$9:a1%", "x y(z)", "0.00001",
		`"` + strings.Repeat(`""`, 255) + `"`, `"` + strings.Repeat("\xff", 255) + `"`, strings.Repeat("(", 256), strings.Repeat("<>", 170), strings.Repeat("x+", 128), strings.Repeat("0", 18) + "a",
	} {
		if _, _, e := lex.Lex(s); e != api.OK {
			t.Errorf("Lex(%q): %d", s, e)
		}
		again(t, s)
		l, _, _ := lex.Lex(s)
		if twice, _, _ := lex.Lex(lex.Join(l)); !slices.Equal(unplaced(l), unplaced(twice)) {
			t.Errorf("Lex(%q): %v; then %v", s, l, twice)
		}
	}
	again(t, strings.Repeat("(", 257)) // one byte too many, when a blank stands between each two
	again(t, strings.Repeat("x+", 256))
}

// TestShort holds P5.1 and P5.3 at every short text of signs that matter to one another.
func TestShort(t *testing.T) {
	m := newModel()
	short := []string{""}
	for range 4 {
		var longer []string
		for _, s := range short {
			for _, b := range []string{"a", "1", "0", ".", `"`, "<", "=", ">", "(", ")", " ", "$", ":", "!", "[", "]", "_", "#"} {
				longer = append(longer, s+b)
				m.hold(t, s+b)
			}
		}
		short = longer
	}
}

// TestPieces holds P5.1 and P5.3 at each three pieces that stand side by side, with blanks between them or not.
func TestPieces(t *testing.T) {
	m := newModel()
	pieces := []string{"1", "1.50", "1.", `"x"`, `""`, `"`, "#N/A", "#N", "#REF!", "A1", "log10", "$b$2", "A1:B2", "S!a1", "[B]S!A1", "x", "TRUE", "_", "a!", "+", "<", ">", "=", "<=", "<>", "%", "(", ")", ",", ".", "@", "A1:BL65"}
	for _, a := range pieces {
		for _, b := range pieces {
			for _, c := range pieces {
				m.hold(t, a+b+c)
				m.hold(t, a+" "+b+c)
				m.hold(t, " "+a+b+"  "+c+" ")
			}
		}
	}
}

// TestChanged holds P5.1 and P5.3 at formulas of which one byte is another one, is gone, or comes in.
func TestChanged(t *testing.T) {
	m := newModel()
	for _, s := range []string{`SUM(a1:B2,"x""y")<=1.50`, "[B1]S!$c$9:A1&log10 (2)", "#DIV/0!<>#NAME?", "-x%^2.5 >= TRUE"} {
		for p := range len(s) + 1 {
			for i := range 256 {
				b := string([]byte{byte(i)})
				m.hold(t, s[:p]+b+s[p:])
				if p < len(s) {
					m.hold(t, s[:p]+b+s[p+1:])
					m.hold(t, s[:p]+s[p+1:])
				}
			}
		}
	}
}

// FuzzLex holds P5.1 and P5.3 at any text.
func FuzzLex(f *testing.F) {
	for _, s := range []string{"", `SUM(a1:B2,"x""y")<=1.50`, "log10 (A1:BL65)", "#N/A#REF!", `"a""`, "1.2.3", "<=>", "[B]S!$c$9:a1%", strings.Repeat("x+", 257)} {
		f.Add(s)
	}
	m := newModel()
	f.Fuzz(func(t *testing.T, s string) { m.hold(t, s) })
}
