package ways_test

import (
	"go/ast"
	"go/types"
	"testing"
)

// embedsCell: is a cell, and nothing else, embedded in references?
func embedsCell(l *layer) bool {
	ref, ok := l.object("Ref").Type().Underlying().(*types.Struct)
	if !ok {
		return false
	}
	cells := 0
	for i := range ref.NumFields() {
		if f := ref.Field(i); f.Embedded() {
			if !types.Identical(f.Type(), l.object("Cell").Type()) {
				return false
			}
			cells++
		}
	}
	return cells == 1
}

// asksPromoted: is a field or a method of the cell asked of the reference in which it is embedded?
func asksPromoted(l *layer, n ast.Node) bool {
	x, ok := n.(*ast.SelectorExpr)
	if !ok {
		return false
	}
	s := l.info.Selections[x]
	return s != nil && len(s.Index()) > 1 && types.Identical(s.Recv(), l.object("Ref").Type())
}

// TestAddr holds the ways of layer 4.
func TestAddr(t *testing.T) {
	l := layerOf(t, "addr")
	if !embedsCell(l) {
		t.Error("addr.Ref: a cell isn't embedded in it")
	}
	l.every(t, "what a cell has isn't promoted to the reference", asksPromoted, "Cell.Text", "Ref.Text", "ParseRef", "Full.Text", "Parse")
}
