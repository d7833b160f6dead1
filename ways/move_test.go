package ways_test

import (
	"go/ast"
	"go/types"
	"testing"
)

// becomesReference: is it the type of functions that take a reference as formulas have it, and tell one?
func becomesReference(t types.Type) bool {
	f, ok := t.Underlying().(*types.Signature)
	if !ok || f.Params().Len() != 1 || f.Results().Len() == 0 {
		return false
	}
	reference := f.Params().At(0).Type()
	return reference.String() == module+"addr.Full" && types.Identical(f.Results().At(0).Type(), reference)
}

// handsOnBecoming: is a closure, which tells what becomes of a reference by what stands around it, handed on?
func handsOnBecoming(l *layer, n ast.Node) bool {
	call, ok := n.(*ast.CallExpr)
	if !ok {
		return false
	}
	for _, arg := range call.Args {
		if literal, ok := arg.(*ast.FuncLit); ok && becomesReference(l.info.TypeOf(literal)) && leansOutside(l, literal) {
			return true
		}
	}
	return false
}

// callsBecoming: is a variable called that holds such a function?
func callsBecoming(l *layer, n ast.Node) bool {
	call, ok := n.(*ast.CallExpr)
	if !ok {
		return false
	}
	name, ok := call.Fun.(*ast.Ident)
	if !ok {
		return false
	}
	v, ok := l.info.Uses[name].(*types.Var)
	return ok && becomesReference(v.Type())
}

// TestMove holds the ways of layer 8.
func TestMove(t *testing.T) {
	l := layerOf(t, "move")
	faces := []string{"Cut.Formula", "Copy", "Rename"}
	l.every(t, "what becomes of a reference isn't a closure", handsOnBecoming, faces...)
	l.every(t, "the closure isn't asked what becomes of a reference", callsBecoming, faces...)
}
