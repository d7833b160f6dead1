package parse_test

import (
	"slices"
	"strings"
	"testing"

	"lattice/addr"
	"lattice/api"
	"lattice/lex"
	"lattice/parse"
	"lattice/value"
)

// A branch is a formula's part as the model tells it: not yet in a list, and with how it was written.
type branch struct {
	node  parse.Node
	kids  []*branch
	depth int // the parentheses and signs around, or ahead of, the operand in it for which there are most
	most  int // the most arguments of a Word in it
}

// ends: can an operand end with that token, so that an operator behind it stands between two?
func ends(l []lex.Token, i int) bool {
	if i < 0 {
		return false
	}
	switch l[i].Kind {
	case lex.Op:
		return l[i].Text == "%"
	case lex.Open, lex.Comma:
		return false
	}
	return true
}

// levels tells of each token in how many parentheses it stands; false, if they don't match.
func levels(l []lex.Token) ([]int, bool) {
	at, all := 0, make([]int, len(l))
	for i, t := range l {
		if t.Kind == lex.Close {
			at--
		}
		if at < 0 {
			return nil, false
		}
		all[i] = at
		if t.Kind == lex.Open {
			at++
		}
	}
	return all, at == 0
}

// lines are the operators between two, from what binds least on.
func lines() [][]string {
	return [][]string{{"=", "<>", "<", "<=", ">", ">="}, {"&"}, {"+", "-"}, {"*", "/"}, {"^"}}
}

// modelled reads tokens from their ends on: it parts them at the last operator that binds least, instead of reading on from the first one. It answers nil, if they aren't a formula's.
func modelled(l []lex.Token) *branch {
	in, ok := levels(l)
	if !ok || len(l) == 0 {
		return nil
	}
	for _, line := range lines() {
		for i := len(l) - 1; i >= 0; i-- {
			if in[i] == 0 && l[i].Kind == lex.Op && slices.Contains(line, l[i].Text) && ends(l, i-1) {
				return over(parse.Node{Kind: parse.Bin, Op: l[i].Text}, 0, modelled(l[:i]), modelled(l[i+1:]))
			}
		}
	}
	if l[0].Kind == lex.Op {
		inner := modelled(l[1:])
		switch {
		case l[0].Text == "-":
			return over(parse.Node{Kind: parse.Neg}, 1, inner)
		case l[0].Text == "+" && inner != nil:
			inner.depth++
			return inner
		}
		return nil
	}
	if last := l[len(l)-1]; last.Kind == lex.Op {
		if last.Text != "%" {
			return nil
		}
		return over(parse.Node{Kind: parse.Pct}, 0, modelled(l[:len(l)-1]))
	}
	return alone(l, in)
}

// alone reads what no operator is part of, but in parentheses.
func alone(l []lex.Token, in []int) *branch {
	if len(l) == 1 {
		return leaf(l[0])
	}
	called := l[0].Kind == lex.Word
	inner := l
	if called {
		inner, in = l[1:], in[1:]
	}
	last := len(inner) - 1
	if last < 1 || inner[0].Kind != lex.Open || slices.Index(in[1:], 0) != last-1 { // the first one must be closed by the last one
		return nil
	}
	inner, in = inner[1:last], in[1:last]
	if !called {
		b := modelled(inner)
		if b != nil {
			b.depth++
		}
		return b
	}
	var args []*branch
	for from, i := 0, 0; len(inner) > 0 && i <= len(inner); i++ {
		if i == len(inner) || inner[i].Kind == lex.Comma && in[i] == 1 {
			args = append(args, modelled(inner[from:i]))
			from = i + 1
		}
	}
	b := over(parse.Node{Kind: parse.Call, Op: l[0].Text}, 1, args...)
	if b != nil {
		b.most = max(b.most, len(args))
	}
	return b
}

// leaf is the branch of one token.
func leaf(t lex.Token) *branch {
	switch t.Kind {
	case lex.Number:
		return &branch{node: num(t.Num)}
	case lex.Text:
		return &branch{node: text(t.Text)}
	case lex.Fail:
		return &branch{node: fail(t.Fail)}
	case lex.Ref:
		return &branch{node: full(t.Ref)}
	case lex.Word:
		if t.Text == "TRUE" || t.Text == "FALSE" {
			return &branch{node: truth(t.Text == "TRUE")}
		}
		return &branch{node: fail(value.Name)}
	}
	return nil
}

// over is a branch over others, around which stand so many parentheses or signs more; nil, if one of them is.
func over(n parse.Node, around int, kids ...*branch) *branch {
	b := &branch{node: n, kids: kids}
	for _, k := range kids {
		if k == nil {
			return nil
		}
		b.depth = max(b.depth, k.depth+around)
		b.most = max(b.most, k.most)
	}
	return b
}

// listed puts a branch behind a tree.
func listed(u parse.Tree, b *branch) parse.Tree {
	n := b.node
	n.Kids = nil
	for _, k := range b.kids {
		u = listed(u, k)
		n.Kids = append(n.Kids, len(u)-1)
	}
	return append(u, n)
}

// expected is what P6.1 says of a text.
func expected(s string) (parse.Tree, int, api.Errno) {
	l, _, e := lex.Lex(s)
	if e != api.OK {
		return nil, 0, e
	}
	b := modelled(l)
	if b == nil {
		return nil, 0, api.ErrForm
	}
	u := listed(nil, b)
	switch {
	case b.depth > 32:
		return nil, 0, api.ErrDeep
	case b.most > 32:
		return nil, 0, api.ErrLong
	case len(u) > 256:
		return nil, 0, api.ErrFull
	}
	return u, b.depth, api.OK
}

// stop ends a test at its first fault: it would be told of thousands of inputs.
func stop(t *testing.T) {
	t.Helper()
	if t.Failed() {
		t.FailNow()
	}
}

// holdText holds P6.1 of a text against the model, and what P6.2 and P6.3 say of a formula's tree.
func holdText(t *testing.T, s string) {
	t.Helper()
	want, depth, e := expected(s)
	if e != api.OK {
		refused(t, s, e)
	} else {
		hold(t, s, want...)
		if want.Nesting() > depth {
			t.Errorf("%q: nesting %d of the tree, %d of the formula", s, want.Nesting(), depth)
		}
		holdTree(t, want)
	}
	stop(t)
}

// behind lists, from a node on, all that is under it, kids first; false, if a kid doesn't stand ahead of its node, or if there are too many.
func behind(u parse.Tree, at int, seen []int) ([]int, bool) {
	for _, k := range u[at].Kids {
		if k < 0 || k >= at || len(seen) > len(u) {
			return nil, false
		}
		var ok bool
		if seen, ok = behind(u, k, seen); !ok {
			return nil, false
		}
	}
	return append(seen, at), true
}

// around is the greatest number of Calls and Negs around a node that is at or under that one.
func around(u parse.Tree, at int) int {
	most := 0
	for _, k := range u[at].Kids {
		here := around(u, k)
		if u[at].Kind == parse.Neg || u[at].Kind == parse.Call {
			here++
		}
		most = max(most, here)
	}
	return most
}

// goodNode is what P6.2 says of one node, but for its place.
func goodNode(n parse.Node) bool {
	none := n
	none.Kids = nil
	kids, ok := 0, false
	switch n.Kind {
	case parse.Lit:
		none.Value, ok = value.Value{}, n.Value.Good() && n.Value.Kind != value.Blank && n.Value.Num >= 0
	case parse.Ref:
		none.Ref, ok = addr.Full{}, n.Ref.Good()
	case parse.Neg, parse.Pct:
		kids, ok = 1, true
	case parse.Bin:
		none.Op, kids = "", 2
		for _, line := range lines() {
			ok = ok || slices.Contains(line, n.Op)
		}
	case parse.Call:
		none.Op, kids, ok = "", min(len(n.Kids), 32), addr.Name(n.Op) && strings.ToUpper(n.Op) == n.Op
	}
	return ok && len(n.Kids) == kids && same(parse.Tree{none}, parse.Tree{{Kind: n.Kind}})
}

// holdTree holds P6.2 and P6.3 of a tree against the model.
func holdTree(t *testing.T, u parse.Tree) {
	t.Helper()
	sound := len(u) > 0 && len(u) <= 256
	for i, n := range u {
		sound = sound && goodNode(n) && (i < len(u)-1 || inOrder(u))
	}
	nesting := 0
	var refs []addr.Full
	var calls []string
	if sound {
		nesting = around(u, len(u)-1)
		for i, n := range u {
			first := true
			for _, other := range u[:i] {
				first = first && (other.Kind != n.Kind || other.Ref != n.Ref || other.Op != n.Op)
			}
			if first && n.Kind == parse.Ref {
				refs = append(refs, n.Ref)
			}
			if first && n.Kind == parse.Call {
				calls = append(calls, n.Op)
			}
		}
	}
	if good := sound && nesting <= 32; u.Good() != good {
		t.Errorf("%.300s: Good is %t", drawn(u), !good)
	}
	if u.Nesting() != nesting || !slices.Equal(u.Refs(), refs) || !slices.Equal(u.Calls(), calls) {
		t.Errorf("%.300s: %d, %v, %v; want %d, %v, %v", drawn(u), u.Nesting(), u.Refs(), u.Calls(), nesting, refs, calls)
	}
	stop(t)
}

// inOrder: is all that is under the last node, kids first, all there is, in order?
func inOrder(u parse.Tree) bool {
	all, ok := behind(u, len(u)-1, nil)
	if !ok || len(all) != len(u) {
		return false
	}
	for i, at := range all {
		if i != at {
			return false
		}
	}
	return true
}

// TestShort holds P6.1 at all short texts of tokens of each sort.
func TestShort(t *testing.T) {
	for _, x := range []struct {
		length int
		pieces []string
	}{
		{6, strings.Split("1 f( ( ) , + %", " ")},
		{5, strings.Split("1 f ( ) , - + * %", " ")},
		{4, strings.Split("1 A1 x TRUE f( f() ( ) , + - * ^ & < <= = % \"+\" #N/A", " ")},
	} {
		short := []string{""}
		for range x.length {
			var longer []string
			for _, s := range short {
				for _, p := range x.pieces {
					longer = append(longer, s+" "+p)
					holdText(t, s+" "+p)
				}
			}
			short = longer
		}
	}
}

// TestBetween holds P6.1 at all operators between up to five operands, with a sign ahead or behind somewhere.
func TestBetween(t *testing.T) {
	operators := strings.Fields("= < & + - * ^")
	all := []string{"1"}
	for _, operand := range []string{"A1", "-2", "3%", "-(4+5)%"} {
		var longer []string
		for _, s := range all {
			for _, op := range operators {
				longer = append(longer, s+op+operand)
				holdText(t, s+op+operand)
				holdText(t, "-"+s+op+operand)
				holdText(t, "f("+s+","+s+op+operand+")%")
			}
		}
		all = longer
	}
}

// TestChanged holds P6.1 at formulas of which a byte is another one, is gone, or comes in.
func TestChanged(t *testing.T) {
	for _, s := range []string{"f(A1,-g(2%,\"x\"),(3))<=1+x*2^-1", "-(1+2)%&f()", within(33, "(", "1", ")"), within(32, "-", "f()", ""), "f(" + strings.Repeat("1,", 31) + "1)", strings.Repeat("1+", 127) + "-1%"} {
		for p := 0; p <= len(s); p += 1 + len(s)/64 {
			for _, b := range strings.Split("1 A f ( ) , + - * % = \" .", " ") {
				holdText(t, s[:p]+b+s[p:])
				if p < len(s) {
					holdText(t, s[:p]+b+s[p+1:])
					holdText(t, s[:p]+s[p+1:])
				}
			}
		}
	}
}

// TestSmallTrees holds P6.2 and P6.3 at all small trees of nodes of each sort, whatever their kids.
func TestSmallTrees(t *testing.T) {
	var nodes []parse.Node
	for _, kids := range [][]int{nil, {-1}, {0}, {1}, {2}, {3}, {0, 0}, {0, 1}, {1, 0}, {1, 2}, {0, 2}, {2, 1}, {2, 3}, {0, 1, 2}, {0, 2, 1}} {
		for _, n := range []parse.Node{num(1), cell(0, 0), {Kind: parse.Neg}, {Kind: parse.Pct}, bin("+", 0, 0), call("F"), bin("%", 0, 0), {Kind: parse.Kinds}} {
			n.Kids = kids
			if len(kids) == 0 || n.Kind != parse.Lit && n.Kind != parse.Ref {
				nodes = append(nodes, n)
			}
		}
	}
	trees := []parse.Tree{nil}
	for range 3 {
		var longer []parse.Tree
		for _, u := range trees {
			for _, n := range nodes {
				v := append(slices.Clone(u), n)
				holdTree(t, v)
				longer = append(longer, v)
			}
		}
		trees = longer
	}
}

// grown is a tree that bytes tell: mostly a good one.
func grown(b []byte) parse.Tree {
	var u parse.Tree
	var free []int
	for i := 0; i+1 < len(b); i += 2 {
		n := parse.Node{Kind: parse.Kind(b[i] % 6)}
		count := 0
		switch n.Kind {
		case parse.Lit:
			n.Value = value.N(10000)
		case parse.Ref:
			n.Ref.From = ref(int(b[i+1]%8), 0)
		case parse.Neg, parse.Pct:
			count = 1
		case parse.Bin:
			n.Op, count = []string{"+", "<=", "&", "%"}[b[i+1]/7%4], 2
		case parse.Call:
			n.Op, count = string([]byte{'A' + b[i+1]/4%8}), int(b[i+1]%4)
		}
		from := max(0, len(free)-count)
		n.Kids = slices.Clone(free[from:])
		if b[i] >= 250 && len(n.Kids) > 0 {
			n.Kids[0] = int(b[i+1]) - 2
		}
		free = append(free[:from], len(u))
		u = append(u, n)
	}
	if len(free) > 1 && len(b)%2 == 1 {
		u = append(u, parse.Node{Kind: parse.Call, Op: "ALL", Kids: free})
	}
	return u
}

// FuzzParse holds P6.1 at any text.
func FuzzParse(f *testing.F) {
	for _, s := range []string{"", "1+A1*-2", "f(A1,-g(A1:B2),A1,f(S!A1))", "-2^2%", "1<2=3&4", "f(1,)", "((1)", strings.Repeat("-", 33) + "1", "f(" + strings.Repeat("1,", 32) + "1)", strings.Repeat("1+", 128) + "1", `"a"&TRUE`} {
		f.Add(s)
	}
	f.Fuzz(holdText)
}

// FuzzTree holds P6.2 and P6.3 at any tree.
func FuzzTree(f *testing.F) {
	for _, b := range []string{"", "\x00\x00", "\x00\x00\x02\x00", "\x01\x00\x01\x01\x04\x00", "\x00\x00\x00\x00\x00\x00\x00", strings.Repeat("\x05\x01", 40), strings.Repeat("\x02\x02", 140), strings.Repeat("\x05\x04", 34) + "\x00"} {
		f.Add([]byte(b))
	}
	f.Fuzz(func(t *testing.T, b []byte) { holdTree(t, grown(b)) })
}
