package ways_test

import (
	"go/ast"
	"go/types"
	"testing"
)

// tells: is it the type of functions that answer true or false, and nothing else?
func tells(t types.Type) bool {
	f, ok := t.Underlying().(*types.Signature)
	return ok && f.Results().Len() == 1 && types.Identical(f.Results().At(0).Type(), types.Typ[types.Bool])
}

// laysClosure: is a closure, which leans on what stands around it, laid into a field of a struct?
func laysClosure(l *layer, n ast.Node) bool {
	made, ok := n.(*ast.CompositeLit)
	if !ok {
		return false
	}
	if _, ok := l.under(made).(*types.Struct); !ok {
		return false
	}
	for _, e := range made.Elts {
		if field, ok := e.(*ast.KeyValueExpr); ok {
			e = field.Value
		}
		if literal, ok := e.(*ast.FuncLit); ok && tells(l.info.TypeOf(literal)) && leansOutside(l, literal) {
			return true
		}
	}
	return false
}

// leansOutside: does a function literal use a variable of the function that it stands in?
func leansOutside(l *layer, literal *ast.FuncLit) bool {
	return inside(l, literal.Body, func(l *layer, n ast.Node) bool {
		name, ok := n.(*ast.Ident)
		if !ok {
			return false
		}
		v, ok := l.info.Uses[name].(*types.Var)
		if !ok || v.IsField() || v.Parent() == l.types.Scope() {
			return false
		}
		return v.Pos() < literal.Pos() || v.Pos() >= literal.End()
	})
}

// choosesByField: does what a function field tells choose the way?
func choosesByField(l *layer, n ast.Node) bool {
	choice, ok := n.(*ast.IfStmt)
	return ok && inside(l, choice.Cond, func(l *layer, n ast.Node) bool {
		call, ok := n.(*ast.CallExpr)
		if !ok {
			return false
		}
		x, ok := call.Fun.(*ast.SelectorExpr)
		if !ok {
			return false
		}
		s := l.info.Selections[x]
		return s != nil && s.Kind() == types.FieldVal && tells(s.Type())
	})
}

// TestShow holds the ways of layer 7.
func TestShow(t *testing.T) {
	l := layerOf(t, "show")
	l.every(t, "no function field holds a closure", laysClosure, "Formula", "Full", "Tidy")
	l.every(t, "no function field tells when an operand stands in parentheses", choosesByField, "Formula", "Full", "Tidy")
}
