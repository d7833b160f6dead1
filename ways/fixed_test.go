package ways_test

import (
	"go/ast"
	"go/token"
	"go/types"
	"testing"
)

// takesManyNums: is it a variadic function of numbers?
func takesManyNums(l *layer, n ast.Node) bool {
	many, ok := n.(*ast.Ellipsis)
	return ok && many.Elt != nil && types.Identical(l.info.TypeOf(many.Elt), l.object("Num").Type())
}

// makesPowers: is it a multiplication by 10 in a range over an integer?
func makesPowers(l *layer, n ast.Node) bool {
	loop, ok := n.(*ast.RangeStmt)
	if !ok || len(loop.Body.List) != 1 {
		return false
	}
	over, ok := l.under(loop.X).(*types.Basic)
	if !ok || over.Info()&types.IsInteger == 0 {
		return false
	}
	times, ok := loop.Body.List[0].(*ast.AssignStmt)
	if !ok || times.Tok != token.MUL_ASSIGN {
		return false
	}
	ten := l.info.Types[times.Rhs[0]].Value
	return ten != nil && ten.String() == "10"
}

// TestFixed holds the ways of layer 1.
func TestFixed(t *testing.T) {
	l := layerOf(t, "fixed")
	l.every(t, "its numbers don't come in through a variadic function", takesManyNums,
		"Raw", "Add", "Sub", "Mul", "Div", "Mod", "Round", "Floor", "Whole", "Num.Text")
	l.every(t, "its powers of ten aren't made by a range over an integer", makesPowers, "Round", "Parse")
}
