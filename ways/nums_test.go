package ways_test

import (
	"go/ast"
	"go/types"
	"testing"
)

// many is the list of values that a function of this layer takes as its last, variadic argument; nil, if it takes none.
func many(l *layer, f *types.Func) *types.Var {
	s := f.Signature()
	if f.Pkg() != l.types || !s.Variadic() {
		return nil
	}
	last := s.Params().At(s.Params().Len() - 1)
	if list, ok := last.Type().(*types.Slice); !ok || list.Elem().String() != module+"value.Value" {
		return nil
	}
	return last
}

// takesArguments: is it a variadic function of values, which goes through them as numbers?
func takesArguments(l *layer, n ast.Node) bool {
	x, ok := n.(*ast.FuncDecl)
	if !ok {
		return false
	}
	f, ok := l.info.Defs[x.Name].(*types.Func)
	if !ok {
		return false
	}
	list := many(l, f)
	return list != nil && inside(l, x.Body, func(l *layer, n ast.Node) bool {
		loop, ok := n.(*ast.RangeStmt)
		return ok && mentions(l, loop.X, list) && inside(l, loop.Body, func(l *layer, n ast.Node) bool {
			name, ok := n.(*ast.Ident)
			return ok && name.Name == "AsNum" && l.info.Uses[name] != nil
		})
	})
}

// handsOnArguments: is a variadic function of values called?
func handsOnArguments(l *layer, n ast.Node) bool {
	call, ok := n.(*ast.CallExpr)
	if !ok {
		return false
	}
	called := call.Fun
	if x, ok := called.(*ast.SelectorExpr); ok {
		called = x.Sel
	}
	name, ok := called.(*ast.Ident)
	if !ok {
		return false
	}
	f, ok := l.info.Uses[name].(*types.Func)
	return ok && many(l, f) != nil
}

// TestNums holds the ways of layer 9.
func TestNums(t *testing.T) {
	l := layerOf(t, "nums")
	faces := []string{"Call", "Bin", "Neg", "Pct"}
	l.every(t, "its arguments don't come in through a variadic function", takesArguments, faces...)
	l.every(t, "its arguments aren't handed to a variadic function", handsOnArguments, faces...)
}
