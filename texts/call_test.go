package texts_test

import (
	"math"
	"slices"
	"strings"
	"testing"

	"lattice/fixed"
	"lattice/texts"
	"lattice/value"
)

// enough ends a test that goes through many values, once it has told that some of them fail.
func enough(t *testing.T) {
	t.Helper()
	if t.Failed() {
		t.FailNow()
	}
}

// call holds what a function tells.
func call(t *testing.T, name string, want value.Value, args ...value.Value) {
	t.Helper()
	if v, ok := texts.Call(name, args); v != want || !ok {
		t.Errorf("Call(%q,%s):%s, %v; want%s", name, brief(args...), brief(v), ok, brief(want))
	}
}

// agrees holds that a function tells what the model does.
func agrees(t *testing.T, name string, args ...guise) {
	t.Helper()
	list := make([]value.Value, 0, len(args))
	for _, g := range args {
		list = append(list, g.v)
	}
	call(t, name, modelled(name, args...), list...)
}

// TestOnes holds P10.1's functions of one text at all short ones, and at each byte alone, between letters and between blanks.
func TestOnes(t *testing.T) {
	all := short("aZ 1", 4)
	all = append(all, short("a ", 9)...)
	for b := range 256 {
		s := string([]byte{byte(b)})
		all = append(all, s, "a"+s+"Z", " "+s+"  "+s+" ", s+s)
	}
	all = append(all, long(255), strings.Repeat(" ", 255), strings.Repeat(" a", 127), strings.Repeat("Ä", 127), "1.50", " 1.5", "-1 ", "1 2", "\t1", "+1", "1e3", "900000000000000", "900000000000001", "#N/A", "true")
	for _, s := range all {
		for _, name := range []string{"LEN", "UPPER", "LOWER", "TRIM", "CONCAT", "LEFT", "RIGHT", "VALUE", "CODE"} {
			agrees(t, name, ofText(s))
		}
		enough(t)
	}
}

// TestParts holds LEFT, RIGHT, MID and REPT at all short texts and all counts near to their ends.
func TestParts(t *testing.T) {
	for _, s := range append(short("abc", 4), "ä\xff\x00", long(254), long(255)) {
		for _, n := range fewCounts() {
			for _, name := range []string{"LEFT", "RIGHT", "REPT"} {
				agrees(t, name, ofText(s), n)
			}
			for _, k := range fewCounts() {
				agrees(t, "MID", ofText(s), k, n)
			}
		}
		enough(t)
	}
}

// TestFind holds FIND and EXACT at all short texts.
func TestFind(t *testing.T) {
	for _, s := range append(short("aB", 5), "ab ab", "\xff\xffa", "ä¤") {
		for _, u := range append(short("aB", 3), "b", " ", "\xff", "\xa4", s, s+"a") {
			agrees(t, "FIND", ofText(u), ofText(s))
			agrees(t, "EXACT", ofText(u), ofText(s))
			for _, k := range fewCounts() {
				agrees(t, "FIND", ofText(u), ofText(s), k)
			}
		}
		enough(t)
	}
}

// TestReplace holds REPLACE at all short texts and all counts near to their ends.
func TestReplace(t *testing.T) {
	for _, s := range append(short("ab", 4), "\xff\x00", long(254), long(255)) {
		for _, u := range []string{"", "c", "ab", "\xfe", long(251), long(255)} {
			for _, k := range fewCounts() {
				for _, n := range fewCounts() {
					agrees(t, "REPLACE", ofText(s), k, n, ofText(u))
				}
			}
			enough(t)
		}
	}
}

// TestSubstitute holds SUBSTITUTE, and P10.2's last sentence, at all short texts.
func TestSubstitute(t *testing.T) {
	for _, s := range append(short("ab", 6), "\xff\xff", long(255), strings.Repeat("ab", 127)) {
		for _, old := range []string{"", "a", "b", "aa", "ab", "ba", "aba", "abab", "A", "c", "\xff", "y", "yy", s, s + "a"} {
			for _, u := range []string{"", "b", "aa", "a b", long(255)} {
				agrees(t, "SUBSTITUTE", ofText(s), ofText(old), ofText(u))
				for _, k := range fewCounts() {
					agrees(t, "SUBSTITUTE", ofText(s), ofText(old), ofText(u), k)
				}
			}
		}
		enough(t)
	}
}

// TestFixed holds FIXED against exact arithmetic.
func TestFixed(t *testing.T) {
	var all []fixed.Num
	for x := fixed.Num(0); x <= 21000; x++ {
		all = append(all, x)
	}
	for step := fixed.Num(100000); step < most/10; step *= 10 {
		all = append(all, step-1, step, step+1, step+5000, step/2, 9*step-5001)
	}
	all = append(all, most, most-1, most-5, most-50, most-500, most-4999, most-5000, most-5001, most-10000)
	for _, x := range all {
		for _, x := range []fixed.Num{x, -x} {
			for _, n := range []fixed.Num{-10000, -9999, 0, 9999, 10000, 20000, 30000, 39999, 40000, 49999, 50000, 150000, 160000, 1 << 32 * 10000, most, -most} {
				agrees(t, "FIXED", guise{v: num(x), n: x}, guise{v: num(n), n: n})
			}
		}
		enough(t)
	}
}

// TestChar holds CHAR at every byte and beyond, and that CODE tells it back.
func TestChar(t *testing.T) {
	for n := fixed.Num(-3); n <= 515; n++ {
		for _, part := range []fixed.Num{0, 1, 5000, 9999} {
			x := n*10000 + part
			agrees(t, "CHAR", guise{v: num(x), n: x})
		}
	}
	for n := 1; n <= 255; n++ {
		v, _ := texts.Call("CHAR", []value.Value{whole(n)})
		if len(v.Text) != 1 {
			t.Errorf("CHAR of %d has %d bytes", n, len(v.Text))
		}
		call(t, "CODE", whole(n), v)
	}
	for _, n := range fewCounts() {
		agrees(t, "CHAR", n)
	}
	call(t, "CODE", whole(0), text("\x00"))
}

// typed are values as somebody types them, with commas between; nothing is a blank one, and what stands in quotes is a text.
func typed(line string) []value.Value {
	var all []value.Value
	for _, s := range strings.Split(line, ",") {
		v := value.Read(s)
		if bare, quoted := strings.CutPrefix(s, `"`); quoted {
			v = value.T(strings.TrimSuffix(bare, `"`))
		}
		all = append(all, v)
	}
	return all
}

// TestByHand has P10.1's answers written out, each ahead of the function and its arguments.
func TestByHand(t *testing.T) {
	for _, line := range []string{
		"3=LEN=abc", `0=LEN=""`, "0=LEN=", "4=LEN=12.5", "3=LEN=1.50", "4=LEN=TRUE", "5=LEN=FALSE", "2=LEN=ä", `3=LEN=" x "`, "7=LEN=-0.0001", "15=LEN=900000000000000",
		"a=LEFT=abc", "ab=LEFT=abc,2", "abc=LEFT=abc,3", "abc=LEFT=abc,4", `""=LEFT=abc,0`, `""=LEFT=abc,`, `""=LEFT=abc,0.9`, `""=LEFT=abc,-0.9`, "a=LEFT=abc,1.9", "a=LEFT=abc,TRUE", `ab=LEFT=abc," 2 "`, `"1"=LEFT=12.5`, `"12."=LEFT=12.5,3`, `""=LEFT=""`, `""=LEFT=,5`,
		"c=RIGHT=abc", "bc=RIGHT=abc,2", "abc=RIGHT=abc,3", "abc=RIGHT=abc,4", `""=RIGHT=abc,0`, "E=RIGHT=TRUE", `""=RIGHT=,2`, `".5"=RIGHT=1.5,2`, "abc=RIGHT=abc,900000000000000",
		"att=MID=lattice,2,3", "c=MID=abc,3,9", `""=MID=abc,4,1`, `""=MID=abc,2,0`, "abc=MID=abc,1,3", "abc=MID=abc,1.9,3.9", `""=MID=abc,900000000000000,900000000000000`, `"2.5"=MID=12.5,2,9`,
		"AB1ÄZä=UPPER=aB1Äzä", "ab1Äzä=LOWER=AB1ÄZä", `"TRUE"=UPPER=true`, `"true"=LOWER=TRUE`, `"1.5"=UPPER=1.50`,
		`a b=TRIM="  a   b "`, `""=TRIM="   "`, `""=TRIM=""`, `""=TRIM=`, "a=TRIM=a", "a b c=TRIM=a b  c", `"1"=TRIM=1`,
		"a1b=CONCAT=a,1,b", "x=CONCAT=x", `""=CONCAT=`, "1.5TRUEFALSE=CONCAT=1.50,,true,FALSE", `"12"=CONCAT=1,2`, "  =CONCAT= , ",
		"2=FIND=b,abab", "4=FIND=b,abab,3", "2=FIND=b,abab,2", "2=FIND=b,abab,2.9", "4=FIND=b,abab,4", "1=FIND=,", "1=FIND=,ab", "3=FIND=,ab,3", "2=FIND=.,1.5", "1=FIND=abab,abab", "2=FIND=aa,baaa", "3=FIND=aa,baaa,3",
		"aXYZd=REPLACE=abcd,2,2,XYZ", "abc=REPLACE=ab,9,1,c", "abc=REPLACE=ab,3,0,c", "cab=REPLACE=ab,1,0,c", "c=REPLACE=ab,1,9,c", "ac=REPLACE=ab,2,9,c", `""=REPLACE=ab,1,2,`, `"19.5"=REPLACE=12.5,2,1,9`, "c=REPLACE=,1,1,c", "c=REPLACE=,900000000000000,900000000000000,c",
		"bbb=SUBSTITUTE=aaa,a,b", "aba=SUBSTITUTE=aaa,a,b,2", "aba=SUBSTITUTE=aaa,a,b,2.9", "ba=SUBSTITUTE=aaa,aa,b", "aaa=SUBSTITUTE=aaa,,b", "aaa=SUBSTITUTE=aaa,,b,1", "aaa=SUBSTITUTE=aaa,a,b,4", "aaa=SUBSTITUTE=aaa,a,b,900000000000000", "aaa=SUBSTITUTE=aaa,aa,b,2", "aaba=SUBSTITUTE=aaaaa,aa,b,2", "bba=SUBSTITUTE=aaaaa,aa,b", `""=SUBSTITUTE=aaa,a,`, "aaaaaa=SUBSTITUTE=aaa,a,aa", "aaa=SUBSTITUTE=aaa,A,b", `""=SUBSTITUTE=,a,b`,
		"ababab=REPT=ab,3", `""=REPT=ab,0`, `""=REPT=ab,0.9`, "ab=REPT=ab,1.9", `""=REPT=,900000000000000`, `""=REPT="",99999`, `"11"=REPT=1,2`,
		"FALSE=EXACT=a,A", "TRUE=EXACT=a,a", `TRUE=EXACT=1,"1"`, `FALSE=EXACT=1,"1.0"`, `TRUE=EXACT=,""`, `TRUE=EXACT=true,"TRUE"`, `FALSE=EXACT=true,"true"`, `FALSE=EXACT=a,"a "`, "TRUE=EXACT=,",
		"1.5=VALUE= 1.5 ", `1.5=VALUE="1.50"`, "2=VALUE=2", "-0.0001=VALUE=-0.0001", `0.1235=VALUE=" 0.12345"`, "900000000000000=VALUE=900000000000000",
		"65=CODE=A", "195=CODE=Ä", "49=CODE=1", "84=CODE=true", `32=CODE=" a"`, "45=CODE=-5",
		"A=CHAR=65", "A=CHAR=65.9999", "\x01=CHAR=1", "\x01=CHAR=TRUE", "\xff=CHAR=255", "\xff=CHAR=255.9999", `" "=CHAR=32`, `A=CHAR="65"`,
		`"1.01"=FIXED=1.005,2`, `"2.00"=FIXED=2,2`, `"-1"=FIXED=-0.5,0`, `"0"=FIXED=-0.4999,0`, `"0.00"=FIXED=-0.0049,2`, `"-0.01"=FIXED=-0.005,2`, `"900000000000000.0000"=FIXED=900000000000000,4`, `"-900000000000000.0"=FIXED=-899999999999999.9999,1`,
		`"0.0"=FIXED=0,1`, `"0"=FIXED=,`, `"1.0"=FIXED=TRUE,TRUE`, `"1.2345"=FIXED=1.2345,4`, `"1.235"=FIXED=1.2345,3`, `"1.2340"=FIXED=1.234,4.9`, `"10.0"=FIXED=9.95,1`, `"10"=FIXED=9.5,0`, `"0.0500"=FIXED=0.05,4`, `"1.50"=FIXED=" 1.5 ","2"`, `"2"=FIXED=1.5,-0.9`,
	} {
		parts := strings.SplitN(line, "=", 3)
		call(t, parts[1], typed(parts[0])[0], typed(parts[2])...)
	}
	call(t, "SUBSTITUTE", text("1,5"), num(15000), text("."), text(","))
}

// TestRefused has P10.2 written out: all tell the error Val.
func TestRefused(t *testing.T) {
	for _, line := range []string{
		"LEFT=abc,-1", "LEFT=abc,-1.5", "LEFT=abc,-900000000000000", "LEFT=abc,x", "LEFT=,-1", "RIGHT=abc,-1", "RIGHT=,-1", "MID=abc,0,1", "MID=abc,0.9999,1", "MID=abc,-1,1", "MID=abc,,1", "MID=abc,1,-1", "MID=abc,900000000000000,-1", "MID=abc,false,1",
		"FIND=B,ab", "FIND=c,ab", "FIND=abc,ab", "FIND=a,", "FIND=,ab,4", "FIND=,,2", "FIND=a,ab,2", "FIND=b,ab,3", "FIND=b,ab,0", "FIND=b,ab,", "FIND=b,ab,-1", "FIND=,ab,900000000000000", "FIND=,ab,0.5", "FIND=b,ab,x",
		"REPLACE=ab,0,1,c", "REPLACE=ab,-1,1,c", "REPLACE=ab,1,-1,c", "REPLACE=ab,9,-1,c", "REPLACE=ab,,1,c", "REPLACE=ab,c,1,c",
		"SUBSTITUTE=aaa,a,b,0", "SUBSTITUTE=aaa,a,b,-1", "SUBSTITUTE=aaa,a,b,", "SUBSTITUTE=aaa,,b,0", "SUBSTITUTE=aaa,c,b,0.9", "SUBSTITUTE=aaa,a,b,x",
		"REPT=a,-1", "REPT=,-1", "REPT=ab,128", "REPT=a,256", "REPT=a,900000000000000", "REPT=a,x",
		"VALUE=x", `VALUE=""`, "VALUE=", "VALUE=TRUE", "VALUE=1 2", "VALUE=900000000000001", "VALUE=+1", "VALUE=.5", "VALUE=5.", "VALUE=\t5",
		`CODE=""`, "CODE=", "CHAR=0", "CHAR=0.9999", "CHAR=-1", "CHAR=256", "CHAR=257", "CHAR=321", "CHAR=900000000000000", "CHAR=-900000000000000", "CHAR=", "CHAR=false", "CHAR=A",
		"FIXED=1.5,5", "FIXED=1.5,-1", "FIXED=1.5,15", "FIXED=1.5,16", "FIXED=1.5,900000000000000", "FIXED=x,2", "FIXED=1,x", `FIXED="",2`,
	} {
		name, args, _ := strings.Cut(line, "=")
		call(t, name, fail(value.Val), typed(args)...)
	}
}

// TestTooLong holds that a text that is told is as layer 3's T tells it.
func TestTooLong(t *testing.T) {
	val := fail(value.Val)
	call(t, "CONCAT", text(long(255)), text(long(100)), text(long(155)))
	call(t, "CONCAT", val, text(long(100)), text(long(156)))
	call(t, "CONCAT", val, slices.Repeat([]value.Value{text(long(255))}, 32)...)
	call(t, "CONCAT", text(long(32)), slices.Repeat([]value.Value{text("y")}, 32)...)
	call(t, "REPT", text(long(255)), text(long(85)), whole(3))
	call(t, "REPT", val, text(long(128)), whole(2))
	call(t, "REPT", text(long(255)), text("y"), whole(255))
	call(t, "REPT", val, text("y"), whole(256))
	call(t, "REPLACE", text(long(255)), text(long(255)), whole(1), whole(10), text(long(10)))
	call(t, "REPLACE", val, text(long(255)), whole(1), whole(10), text(long(11)))
	call(t, "REPLACE", val, text(long(255)), whole(256), whole(10), text("y"))
	call(t, "SUBSTITUTE", text("a"+long(254)), text("aa"), text("a"), text(long(254)), whole(2))
	call(t, "SUBSTITUTE", val, text("aa"), text("a"), text(long(255)), whole(2))
	call(t, "SUBSTITUTE", text("aa"), text("aa"), text("a"), text(long(255)), whole(3))
	call(t, "SUBSTITUTE", text(long(254)), text("aa"), text("a"), text(long(127)))
	call(t, "SUBSTITUTE", val, text("aa"), text("a"), text(long(128)))
	call(t, "SUBSTITUTE", val, text(long(255)), text("y"), text(long(255)))
}

// TestGuises holds that each argument is taken as its letter says, whatever stands in its place.
func TestGuises(t *testing.T) {
	plain := map[byte]guise{'s': ofText("abab"), 't': ofText("b"), 'u': ofText("cc"), 'n': as(whole(2)), 'k': as(whole(2)), 'x': as(num(12345))}
	for name := range known() {
		letters, least := takes(name)
		for n := least; n <= min(len(letters), 5); n++ {
			args := make([]guise, n)
			for i := range args {
				args[i] = plain[letters[i]]
			}
			for i := range args {
				for _, g := range guises() {
					with := slices.Clone(args)
					with[i] = g
					agrees(t, name, with...)
				}
			}
		}
		enough(t)
	}
}

// TestFirstFail holds that of several errors the first one is told, from left to right, and ahead of counts that are too low.
func TestFirstFail(t *testing.T) {
	all := guises()
	all = append(all, as(whole(-1)), as(whole(0)))
	for name := range known() {
		letters, least := takes(name)
		for n := max(least, 2); n <= min(len(letters), 4); n++ {
			args := slices.Repeat([]guise{all[2]}, n)
			for i := range n {
				for k := range i {
					for _, g := range all {
						for _, h := range all {
							with := slices.Clone(args)
							with[k], with[i] = g, h
							agrees(t, name, with...)
						}
					}
				}
			}
			enough(t)
		}
	}
	na, ref := fail(value.NA), fail(value.Ref)
	call(t, "CONCAT", ref, text("x"), ref, na)
	call(t, "MID", na, text("abc"), whole(0), na)
	call(t, "MID", ref, ref, whole(0), whole(-1))
	call(t, "MID", fail(value.Val), text("abc"), text("x"), na)
	call(t, "REPLACE", na, text("abc"), whole(-1), whole(-1), na)
	call(t, "SUBSTITUTE", ref, text("abc"), text(""), text(""), ref)
	call(t, "FIND", na, text("x"), text("abc"), na)
	call(t, "FIXED", na, na, whole(9))
	call(t, "FIXED", ref, num(15000), ref)
}

// TestCount holds that a wrong number of arguments is the error Val, whatever they are.
func TestCount(t *testing.T) {
	for name := range known() {
		letters, least := takes(name)
		for _, v := range []value.Value{{}, num(10000), text("x"), fail(value.NA), {Kind: value.Kinds}} {
			for _, n := range []int{0, 1, 2, 3, 4, 5, 31, 32, 33, 1000} {
				if n < least || n > len(letters) {
					call(t, name, fail(value.Val), slices.Repeat([]value.Value{v}, n)...)
				}
			}
		}
		if v, ok := texts.Call(name, []value.Value{}); v != fail(value.Val) || !ok {
			t.Errorf("Call(%q) of no arguments:%s, %v", name, brief(v), ok)
		}
	}
	for n := 1; n <= 32; n++ {
		call(t, "CONCAT", text(long(n)), slices.Repeat([]value.Value{text("y")}, n)...)
	}
	call(t, "CONCAT", fail(value.Val), make([]value.Value, 33)...)
}

// TestNames holds which names there are: those of the table, in great letters, and no others.
func TestNames(t *testing.T) {
	for name := range known() {
		if !texts.Has(name) {
			t.Errorf("Has(%q): false", name)
		}
		if _, ok := texts.Call(name, nil); !ok {
			t.Errorf("Call(%q): false", name)
		}
	}
	others := []string{"", " ", "len", "Len", " LEN", "LEN ", "LEN(", "LE", "LENS", "LENGTH", "CONCATENATE", "SEARCH", "PROPER", "CLEAN", "T", "TEXT", "s", "&", "\x00", "\xff", strings.Repeat("LEN", 1<<20),
		"ABS", "ROUND", "SIGN", "SUM", "COUNTIF", "VLOOKUP", "INDEX", "IF", "NOT", "N", "TRUE", "TYPE"}
	for name := range known() {
		others = append(others, strings.ToLower(name), name+"\x00")
	}
	for _, name := range others {
		if texts.Has(name) {
			t.Errorf("Has(%.40q): true", name)
		}
		for n := range 5 {
			for _, v := range []value.Value{num(10000), text("x"), fail(value.NA)} {
				if got, ok := texts.Call(name, slices.Repeat([]value.Value{v}, n)); ok || got != (value.Value{}) {
					t.Errorf("Call(%.40q) of %d arguments:%s, %v", name, n, brief(got), ok)
				}
			}
		}
	}
}

// TestLists holds that a list that is handed in stays as it is, and that nothing behind its length is read.
func TestLists(t *testing.T) {
	for name := range known() {
		for n := range 6 {
			list := []value.Value{text("31"), text("1"), text("2"), text("3"), fail(value.NA), fail(value.Cycle), num(math.MinInt64)}
			kept := slices.Clone(list)
			first, _ := texts.Call(name, list[:n])
			again, _ := texts.Call(name, slices.Clone(list[:n:n]))
			if first != again {
				t.Errorf("Call(%q) of %d arguments:%s, then%s", name, n, brief(first), brief(again))
			}
			if !slices.Equal(list, kept) {
				t.Errorf("Call(%q) of %d arguments changes them:%s", name, n, brief(list...))
			}
		}
	}
}

// FuzzCall looks for texts and numbers at which a function strays from going through them byte by byte, or panics (P1).
func FuzzCall(f *testing.F) {
	f.Add("lattice", "att", "x", int64(20000), int64(30000))
	f.Add("  a   b ", " ", "", int64(-1), int64(9999))
	f.Add("aaa", "aa", "a", int64(math.MaxInt64), int64(math.MinInt64))
	f.Add("\xff\x00", "1.5", "#N/A", int64(-10000), int64(2550000))
	f.Fuzz(func(t *testing.T, s, u, w string, x, y int64) {
		few := []value.Value{text(s), value.Read(u), value.T(w), num(fixed.Num(x)), num(fixed.Num(y % 80000))}
		for name := range known() {
			letters, least := takes(name)
			for n := least; n <= min(len(letters), 4); n++ {
				for shift := range few {
					args := make([]guise, n)
					for i := range args {
						args[i] = as(few[(i+shift)%len(few)])
						if strings.IndexByte("nkx", letters[i]) >= 0 && (i+shift)%2 == 0 {
							args[i] = as(few[3+i%2])
						}
					}
					agrees(t, name, args...)
				}
			}
		}
	})
}
