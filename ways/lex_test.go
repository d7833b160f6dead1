package ways_test

import (
	"go/ast"
	"go/constant"
	"go/types"
	"slices"
	"testing"
)

// holdsTwoSigns: is it an array whose texts are just the operators of two signs?
func holdsTwoSigns(l *layer, n ast.Node) bool {
	x, ok := n.(*ast.CompositeLit)
	if !ok {
		return false
	}
	table, ok := l.under(x).(*types.Array)
	if !ok || !types.Identical(table.Elem(), types.Typ[types.String]) {
		return false
	}
	var signs []string
	for _, e := range x.Elts {
		if v := l.info.Types[e].Value; v != nil {
			signs = append(signs, constant.StringVal(v))
		}
	}
	slices.Sort(signs)
	return slices.Equal(signs, []string{"<=", "<>", ">="})
}

// goesThroughTexts: is an array of texts gone through, or a text picked out of it?
func goesThroughTexts(l *layer, n ast.Node) bool {
	var of ast.Expr
	switch x := n.(type) {
	case *ast.RangeStmt:
		of = x.X
	case *ast.IndexExpr:
		of = x.X
	default:
		return false
	}
	table, ok := l.under(of).(*types.Array)
	return ok && types.Identical(table.Elem(), types.Typ[types.String])
}

// TestLex holds the ways of layer 5.
func TestLex(t *testing.T) {
	l := layerOf(t, "lex")
	l.every(t, "kinds aren't numbered by iota", numbers("Kind"), "Lex", "Token.Show", "Join")
	l.every(t, "operators of two signs don't stand in an array", holdsTwoSigns, "Lex")
	l.every(t, "operators aren't looked for in the array", goesThroughTexts, "Lex")
}
