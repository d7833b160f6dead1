package ways_test

import (
	"go/ast"
	"go/token"
	"go/types"
	"testing"
)

// ofRune: is it the type of functions that tell of a rune whether something holds?
func ofRune(t types.Type) bool {
	f, ok := t.Underlying().(*types.Signature)
	return ok && tells(t) && f.Params().Len() == 1 && types.Identical(f.Params().At(0).Type(), types.Typ[types.Rune])
}

// tellsBlanks: is a closure of a rune, which holds it against a blank, handed on?
func tellsBlanks(l *layer, n ast.Node) bool {
	call, ok := n.(*ast.CallExpr)
	if !ok {
		return false
	}
	for _, arg := range call.Args {
		if literal, ok := arg.(*ast.FuncLit); ok && ofRune(l.info.TypeOf(literal)) && inside(l, literal.Body, againstBlank) {
			return true
		}
	}
	return false
}

// againstBlank: is a variable compared with the sign of a blank?
func againstBlank(l *layer, n ast.Node) bool {
	x, ok := n.(*ast.BinaryExpr)
	if !ok || x.Op != token.EQL && x.Op != token.NEQ {
		return false
	}
	for _, side := range []ast.Expr{x.X, x.Y} {
		if constant := l.info.Types[side].Value; constant != nil && constant.ExactString() == "32" {
			return true
		}
	}
	return false
}

// TestTexts holds the way of layer 10.
func TestTexts(t *testing.T) {
	l := layerOf(t, "texts")
	l.every(t, "blanks aren't told from other signs by a closure of a rune", tellsBlanks, "Call")
}
