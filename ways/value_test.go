package ways_test

import (
	"go/ast"
	"go/token"
	"go/types"
	"testing"
)

// looksUpSigns: is a text picked out of an array of texts, one for each error?
func looksUpSigns(l *layer, n ast.Node) bool {
	x, ok := n.(*ast.IndexExpr)
	if !ok {
		return false
	}
	table, ok := l.under(x.X).(*types.Array)
	if !ok || !types.Identical(table.Elem(), types.Typ[types.String]) {
		return false
	}
	return types.Identical(l.info.TypeOf(x.Index), l.object("Fail").Type())
}

// comparesValues: are two values held against each other, whole?
func comparesValues(l *layer, n ast.Node) bool {
	x, ok := n.(*ast.BinaryExpr)
	if !ok || x.Op != token.EQL && x.Op != token.NEQ {
		return false
	}
	_, ok = l.under(x.X).(*types.Struct)
	return ok && types.Identical(l.info.TypeOf(x.X), l.object("Value").Type())
}

// TestValue holds the ways of layer 3.
func TestValue(t *testing.T) {
	l := layerOf(t, "value")
	good := []string{"Value.Good", "Value.Show", "Value.AsNum", "Value.AsText", "Value.AsBool", "Order", "Value.Put", "Get"}
	l.every(t, "kinds aren't numbered by iota", numbers("Kind"), append(good, "N", "T", "B", "E", "Read")...)
	l.every(t, "errors aren't numbered by iota", numbers("Fail"), append(good, "N", "T", "E", "Fail.Text", "Read")...)
	l.every(t, "the errors in signs don't stand in an array", looksUpSigns, "Fail.Text", "Value.Show", "Value.AsText", "Read")
	l.every(t, "values aren't structs that are compared", comparesValues, good...)
}
