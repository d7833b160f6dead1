package ways_test

import (
	"go/ast"
	"go/types"
	"testing"
)

// builtin: is it a call of that function, which the language itself has?
func builtin(name string) func(*layer, ast.Node) bool {
	return func(l *layer, n ast.Node) bool {
		call, ok := n.(*ast.CallExpr)
		if !ok {
			return false
		}
		called, ok := ast.Unparen(call.Fun).(*ast.Ident)
		return ok && l.info.Uses[called] == types.Universe.Lookup(name)
	}
}

// recoversBySwitch: is it a deferred function literal that looks in a type switch at what it recovers?
func recoversBySwitch(l *layer, n ast.Node) bool {
	later, ok := n.(*ast.DeferStmt)
	if !ok {
		return false
	}
	literal, ok := later.Call.Fun.(*ast.FuncLit)
	return ok && inside(l, literal.Body, func(l *layer, n ast.Node) bool {
		choice, ok := n.(*ast.TypeSwitchStmt)
		return ok && inside(l, choice.Assign, builtin("recover"))
	})
}

// handsOnMethod: is a method of this layer handed on as a value to a function that takes functions?
func handsOnMethod(l *layer, n ast.Node) bool {
	call, ok := n.(*ast.CallExpr)
	if !ok {
		return false
	}
	for _, arg := range call.Args {
		x, ok := arg.(*ast.SelectorExpr)
		if !ok {
			continue
		}
		if s := l.info.Selections[x]; s != nil && s.Kind() == types.MethodVal && s.Obj().Pkg() == l.types {
			return true
		}
	}
	return false
}

// asksGenericByClosure: is a generic function of this layer called with a function literal?
func asksGenericByClosure(l *layer, n ast.Node) bool {
	call, ok := n.(*ast.CallExpr)
	if !ok || !generic(l, call.Fun) {
		return false
	}
	for _, arg := range call.Args {
		if _, ok := arg.(*ast.FuncLit); ok {
			return true
		}
	}
	return false
}

// generic: is it the name of a function of this layer with type parameters?
func generic(l *layer, fun ast.Expr) bool {
	name, ok := fun.(*ast.Ident)
	if !ok {
		return false
	}
	f, ok := l.info.Uses[name].(*types.Func)
	return ok && f.Pkg() == l.types && f.Origin().Signature().TypeParams().Len() > 0
}

// goesBackward: is it a range over a function that tells the nodes backward?
func goesBackward(l *layer, n ast.Node) bool {
	loop, ok := n.(*ast.RangeStmt)
	if !ok {
		return false
	}
	_, ok = l.under(loop.X).(*types.Signature)
	return ok && inside(l, loop.X, uses("slices.Backward")) && inside(l, loop.X, func(l *layer, n ast.Node) bool {
		x, ok := n.(ast.Expr)
		return ok && types.Identical(l.info.TypeOf(x), l.object("Tree").Type())
	})
}

// TestParse holds the ways of layer 6.
func TestParse(t *testing.T) {
	l := layerOf(t, "parse")
	l.every(t, "a formula that is none isn't told by a panic", builtin("panic"), "Parse")
	l.every(t, "no deferred function recovers a panic and looks at it in a type switch", recoversBySwitch, "Parse")
	l.every(t, "what stands in parentheses isn't read by a method value", handsOnMethod, "Parse")
	l.every(t, "what is told once isn't found by a generic function with a closure", asksGenericByClosure, "Tree.Refs", "Tree.Calls")
	l.every(t, "nodes aren't gone through backward by a range over a function", goesBackward, "Tree.Good", "Tree.Nesting")
	l.every(t, "kinds aren't numbered by iota", numbers("Kind"), "Parse", "Tree.Good", "Tree.Refs", "Tree.Calls", "Tree.Nesting")
}
