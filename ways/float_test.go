package ways_test

import (
	"go/ast"
	"go/token"
	"go/types"
	"testing"
)

// comparesFloats: is a float64 held against another, or against itself?
func comparesFloats(l *layer, n ast.Node) bool {
	x, ok := n.(*ast.BinaryExpr)
	if !ok {
		return false
	}
	switch x.Op {
	case token.EQL, token.NEQ, token.LSS, token.LEQ, token.GTR, token.GEQ:
		kind, ok := l.under(x.X).(*types.Basic)
		return ok && kind.Kind() == types.Float64
	}
	return false
}

// comparesTwoWords: are two structs of two words held against each other?
func comparesTwoWords(l *layer, n ast.Node) bool {
	x, ok := n.(*ast.BinaryExpr)
	if !ok || x.Op != token.EQL && x.Op != token.NEQ {
		return false
	}
	s, ok := l.under(x.X).(*types.Struct)
	if !ok || s.NumFields() != 2 {
		return false
	}
	word := types.Typ[types.Uint64]
	return types.Identical(s.Field(0).Type(), word) && types.Identical(s.Field(1).Type(), word)
}

// TestFloat holds the ways of layer 2.
func TestFloat(t *testing.T) {
	l := layerOf(t, "float")
	faces := []string{"Of", "Parts", "To", "From", "Sqrt", "Order", "Ratio"}
	l.every(t, "a float64 isn't told by its comparisons", comparesFloats, "Of", "Parts", "From", "Order")
	for _, name := range faces {
		for _, other := range []string{"Float64bits", "Frexp", "Ilogb", "Logb", "IsNaN", "IsInf"} {
			if l.reaches(t, name, uses("math."+other)) {
				t.Errorf("float.%s: a float64 is told by math.%s, not by its comparisons", name, other)
			}
		}
	}
	l.every(t, "classes aren't numbered by iota", numbers("Class"), "Of")
	l.every(t, "numbers of two words aren't structs that are compared", comparesTwoWords, "From", "Sqrt")
}
