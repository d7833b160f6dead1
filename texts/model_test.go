package texts_test

import (
	"bytes"
	"fmt"
	"math"
	"math/big"
	"strconv"
	"strings"

	"lattice/api"
	"lattice/fixed"
	"lattice/value"
)

const most = fixed.Num(api.MaxNum)

// Values written out field by field, so that they lean on no call.
func num(n fixed.Num) value.Value   { return value.Value{Kind: value.Number, Num: n} }
func whole(n int) value.Value       { return num(fixed.Num(n) * api.Scale) }
func text(s string) value.Value     { return value.Value{Kind: value.Text, Text: s} }
func truth(b bool) value.Value      { return value.Value{Kind: value.Bool, True: b} }
func fail(f value.Fail) value.Value { return value.Value{Kind: value.Error, Fail: f} }

// long is a text of so many bytes.
func long(n int) string { return strings.Repeat("y", n) }

// told is the value of a text, which may be too long.
func told(s string) value.Value {
	if len(s) > 255 {
		return fail(value.Val)
	}
	return text(s)
}

// known are the letters of the arguments of each function, as the document's table has them; those behind a stop may be left out.
func known() map[string]string {
	return map[string]string{
		"LEN": "s", "LEFT": "s.n", "RIGHT": "s.n", "MID": "skn", "UPPER": "s", "LOWER": "s", "TRIM": "s",
		"CONCAT": "s.sssssssssssssssssssssssssssssss", "FIND": "ts.k", "REPLACE": "sknt", "SUBSTITUTE": "stu.k",
		"REPT": "sn", "EXACT": "st", "VALUE": "s", "CODE": "s", "CHAR": "n", "FIXED": "xn",
	}
}

// takes are the letters of a function, and how many of them must be there.
func takes(name string) (string, int) {
	must, may, _ := strings.Cut(known()[name], ".")
	return must + may, len(must)
}

// A guise is a value, and what it is as a text and as a number.
type guise struct {
	v      value.Value
	s      string
	noText value.Fail
	n      fixed.Num
	noNum  value.Fail
}

// as is the guise of a value by layer 3.
func as(v value.Value) guise {
	g := guise{v: v}
	g.s, g.noText = v.AsText()
	g.n, g.noNum = v.AsNum()
	return g
}

// fails is why it isn't what a letter asks for.
func (g guise) fails(letter byte) value.Fail {
	if strings.IndexByte("stu", letter) >= 0 {
		return g.noText
	}
	return g.noNum
}

// bads are values that aren't good.
func bads() []value.Value {
	return []value.Value{
		{Kind: -1}, {Kind: value.Kinds}, {Kind: math.MaxInt}, {Kind: math.MinInt, Num: 10000, Text: "1", True: true, Fail: value.NA},
		{Num: 10000}, {Text: "1"}, {True: true}, {Fail: value.NA},
		num(most + 1), num(-most - 1), num(math.MaxInt64), num(math.MinInt64), text(long(256)),
		fail(value.None), fail(value.Fails), fail(-1),
		{Kind: value.Number, Num: 10000, Text: "1"}, {Kind: value.Text, Text: "1", Num: 10000}, {Kind: value.Bool, True: true, Fail: value.NA}, {Kind: value.Error, Fail: value.NA, Num: 1},
	}
}

// guises are values of every kind, each with what it is written out.
func guises() []guise {
	all := []guise{
		{v: value.Value{}},
		{v: num(0), s: "0"},
		{v: num(10000), s: "1", n: 10000},
		{v: num(29999), s: "2.9999", n: 29999},
		{v: num(-1), s: "-0.0001", n: -1},
		{v: num(-15000), s: "-1.5", n: -15000},
		{v: num(most), s: "900000000000000", n: most},
		{v: truth(false), s: "FALSE"},
		{v: truth(true), s: "TRUE", n: 10000},
		{v: text("2"), s: "2", n: 20000},
		{v: text("  1.5 "), s: "  1.5 ", n: 15000},
		{v: text(""), noNum: value.Val},
		{v: text(" "), s: " ", noNum: value.Val},
		{v: text("x"), s: "x", noNum: value.Val},
		{v: text("TRUE"), s: "TRUE", noNum: value.Val},
		{v: text("#N/A"), s: "#N/A", noNum: value.Val},
		{v: text("\xff\x00ä"), s: "\xff\x00ä", noNum: value.Val},
		{v: text(long(255)), s: long(255), noNum: value.Val},
		{v: text("900000000000001"), s: "900000000000001", noNum: value.Val},
	}
	for f := value.Div0; f < value.Fails; f++ {
		all = append(all, guise{v: fail(f), noText: f, noNum: f})
	}
	for _, v := range bads() {
		all = append(all, guise{v: v, noText: value.Val, noNum: value.Val})
	}
	return all
}

// modelled is what a function must tell, by going through texts byte by byte.
func modelled(name string, args ...guise) value.Value {
	letters, least := takes(name)
	if len(args) < least || len(args) > len(letters) {
		return fail(value.Val)
	}
	for i, g := range args {
		if f := g.fails(letters[i]); f != value.None {
			return fail(f)
		}
	}
	texts, counts, low := map[byte]string{}, map[byte]int64{}, false
	for i, g := range args {
		letter := letters[i]
		texts[letter] += g.s
		counts[letter] = int64(g.n) / 10000
		low = low || letter == 'n' && counts[letter] < 0 || letter == 'k' && counts[letter] < 1
	}
	if low {
		return fail(value.Val)
	}
	if name == "FIXED" {
		return inDigits(args[0].n, counts['n'])
	}
	return bytewise(name, texts, counts)
}

// bytewise is what a function tells of texts and counts; of counts those that aren't there are none of the map.
func bytewise(name string, texts map[byte]string, counts map[byte]int64) value.Value {
	s, t, u := texts['s'], texts['t'], texts['u']
	size := int64(len(s))
	n, k := counts['n'], counts['k']
	_, hasN := counts['n']
	_, hasK := counts['k']
	if !hasN {
		n = 1
	}
	switch name {
	case "LEN":
		return whole(len(s))
	case "LEFT":
		return told(those(s, func(place int64) bool { return place <= n }))
	case "RIGHT":
		return told(those(s, func(place int64) bool { return place > size-n }))
	case "MID":
		return told(those(s, func(place int64) bool { return place >= k && place < k+n }))
	case "REPLACE":
		return told(those(s, func(place int64) bool { return place < k }) + t + those(s, func(place int64) bool { return place >= k+n }))
	case "UPPER":
		return told(changed(s, "abcdefghijklmnopqrstuvwxyz", "ABCDEFGHIJKLMNOPQRSTUVWXYZ"))
	case "LOWER":
		return told(changed(s, "ABCDEFGHIJKLMNOPQRSTUVWXYZ", "abcdefghijklmnopqrstuvwxyz"))
	case "TRIM":
		return told(trimmed(s))
	case "CONCAT":
		return told(s)
	case "FIND":
		return found(t, s, max(k, 1))
	case "SUBSTITUTE":
		return told(substituted(s, t, u, k, hasK))
	case "REPT":
		return told(repeated(s, n))
	case "EXACT":
		return truth(bytes.Equal([]byte(s), []byte(t)))
	case "VALUE":
		g := as(text(s))
		if g.noNum != value.None {
			return fail(g.noNum)
		}
		return num(g.n)
	case "CODE":
		for i := range 256 {
			if size > 0 && s[0] == byte(i) {
				return whole(i)
			}
		}
	case "CHAR":
		if n >= 1 && n <= 255 {
			return text(string([]byte{byte(n)}))
		}
	}
	return fail(value.Val)
}

// those are the bytes at places that are wanted; the first place is 1.
func those(s string, wanted func(place int64) bool) string {
	var all []byte
	for i := range len(s) {
		if wanted(int64(i) + 1) {
			all = append(all, s[i])
		}
	}
	return string(all)
}

// changed is s with the bytes of from as those of to.
func changed(s, from, to string) string {
	all := []byte(s)
	for i, b := range all {
		if at := strings.IndexByte(from, b); at >= 0 {
			all[i] = to[at]
		}
	}
	return string(all)
}

// trimmed leaves a blank out, if there is nothing behind it but blanks, or none but blanks ahead, or one just ahead.
func trimmed(s string) string {
	behind := func(i int) bool {
		for ; i < len(s); i++ {
			if s[i] != 32 {
				return true
			}
		}
		return false
	}
	var all []byte
	for i := range len(s) {
		if s[i] != 32 || len(all) > 0 && all[len(all)-1] != 32 && behind(i) {
			all = append(all, s[i])
		}
	}
	return string(all)
}

// found is the first place of t from the k-th on, each tried.
func found(t, s string, k int64) value.Value {
	for place := k; place <= int64(len(s)-len(t))+1; place++ {
		if s[place-1:place-1+int64(len(t))] == t {
			return num(fixed.Num(place) * 10000)
		}
	}
	return fail(value.Val)
}

// substituted goes from left to right, and counts the places of t.
func substituted(s, t, u string, k int64, kth bool) string {
	all, nth := "", int64(0)
	for t != "" && s != "" {
		if !strings.HasPrefix(s, t) {
			all, s = all+s[:1], s[1:]
			continue
		}
		if nth++; !kth || nth == k {
			all += u
		} else {
			all += t
		}
		s = s[len(t):]
	}
	return all + s
}

// repeated goes no farther than to a text that is too long.
func repeated(s string, n int64) string {
	all := ""
	for i := int64(0); i < n && s != "" && len(all) <= 255; i++ {
		all += s
	}
	return all
}

// inDigits is a number rounded to n places, by exact arithmetic and digit by digit.
func inDigits(x fixed.Num, n int64) value.Value {
	if n > 4 {
		return fail(value.Val)
	}
	step := new(big.Int).Exp(big.NewInt(10), big.NewInt(4-n), nil)
	steps := new(big.Int).Abs(big.NewInt(int64(x)))
	steps.Mul(steps, big.NewInt(2)).Add(steps, step).Quo(steps, new(big.Int).Mul(step, big.NewInt(2)))
	digits := steps.String()
	for int64(len(digits)) <= n {
		digits = "0" + digits
	}
	ahead := len(digits) - int(n)
	s := digits[:ahead]
	if n > 0 {
		s += "." + digits[ahead:]
	}
	if x < 0 && steps.Sign() != 0 {
		s = "-" + s
	}
	return text(s)
}

// short are all texts of at most so many signs of an alphabet.
func short(alphabet string, most int) []string {
	all := []string{""}
	last := all
	for range most {
		var more []string
		for _, s := range last {
			for i := range len(alphabet) {
				more = append(more, s+alphabet[i:i+1])
			}
		}
		all, last = append(all, more...), more
	}
	return all
}

// fewCounts are numbers near to the ends of short texts, whole or not, and far from them.
func fewCounts() []guise {
	var all []guise
	for _, n := range []fixed.Num{-most, -10000, -9999, -1, 0, 1, 9999, 10000, 10001, 19999, 20000, 30000, 35000, 40000, 50000, 60000, 1 << 32 * api.Scale, most} {
		all = append(all, guise{v: num(n), s: strconv.Itoa(int(n)), n: n})
	}
	return all
}

// ofText is the guise of a text that no count is asked of.
func ofText(s string) guise {
	if told(s) != text(s) {
		return guise{v: text(s), noText: value.Val, noNum: value.Val}
	}
	return guise{v: text(s), s: s, noNum: value.Val}
}

// brief is values in few signs, for what a test tells.
func brief(all ...value.Value) string {
	s := ""
	for _, v := range all {
		s += fmt.Sprintf(" %d:%.50q", v.Kind, v.Show())
	}
	return s
}
