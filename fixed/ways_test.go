package fixed_test

import (
	"go/ast"
	"go/parser"
	"go/token"
	"slices"
	"strings"
	"testing"
)

// functions are those of fixed.go, by their names.
func functions(t *testing.T) (map[string]*ast.FuncDecl, *ast.File) {
	file, err := parser.ParseFile(token.NewFileSet(), "fixed.go", nil, 0)
	if err != nil {
		t.Fatal(err)
	}
	all := map[string]*ast.FuncDecl{}
	for _, d := range file.Decls {
		if f, ok := d.(*ast.FuncDecl); ok {
			all[f.Name.Name] = f
		}
	}
	return all, file
}

// reaches: does the function named from call, step by step, one that is asked for?
func reaches(all map[string]*ast.FuncDecl, from string, asked func(*ast.FuncDecl) bool) bool {
	seen, work := map[string]bool{from: true}, []string{from}
	for len(work) > 0 {
		f := all[work[0]]
		work = work[1:]
		if asked(f) {
			return true
		}
		ast.Inspect(f, func(n ast.Node) bool {
			if name, ok := n.(*ast.Ident); ok && all[name.Name] != nil && !seen[name.Name] {
				seen[name.Name] = true
				work = append(work, name.Name)
			}
			return true
		})
	}
	return false
}

// takesManyNums: is it a variadic function of numbers?
func takesManyNums(f *ast.FuncDecl) bool {
	for _, p := range f.Type.Params.List {
		if many, ok := p.Type.(*ast.Ellipsis); ok {
			name, ok := many.Elt.(*ast.Ident)
			return ok && name.Name == "Num"
		}
	}
	return false
}

// makesPowers: does it multiply by 10 in a range over an int that it was given?
func makesPowers(f *ast.FuncDecl) bool {
	found := false
	ast.Inspect(f, func(n ast.Node) bool {
		loop, ok := n.(*ast.RangeStmt)
		if !ok || !isIntParam(f, loop.X) || len(loop.Body.List) != 1 {
			return true
		}
		times, ok := loop.Body.List[0].(*ast.AssignStmt)
		if ok && times.Tok == token.MUL_ASSIGN {
			ten, ok := times.Rhs[0].(*ast.BasicLit)
			found = found || ok && ten.Value == "10"
		}
		return true
	})
	return found
}

func isIntParam(f *ast.FuncDecl, x ast.Expr) bool {
	name, ok := x.(*ast.Ident)
	if !ok {
		return false
	}
	for _, p := range f.Type.Params.List {
		kind, ok := p.Type.(*ast.Ident)
		if ok && kind.Name == "int" && slices.ContainsFunc(p.Names, func(n *ast.Ident) bool { return n.Name == name.Name }) {
			return true
		}
	}
	return false
}

// TestWays holds what the document's section 'Ways' says of this layer.
func TestWays(t *testing.T) {
	all, _ := functions(t)
	for _, name := range []string{"Raw", "Add", "Sub", "Mul", "Div", "Mod", "Round", "Floor", "Whole", "Text"} {
		if all[name] == nil || !reaches(all, name, takesManyNums) {
			t.Errorf("%s: its numbers don't come in through a variadic function", name)
		}
	}
	for _, name := range []string{"Round", "Parse"} {
		if all[name] == nil || !reaches(all, name, makesPowers) {
			t.Errorf("%s: its powers of ten aren't made by a range over an integer", name)
		}
	}
}

// TestImports holds the map's and the language's word on what this layer may lean on.
func TestImports(t *testing.T) {
	_, file := functions(t)
	for _, x := range file.Imports {
		path := strings.Trim(x.Path.Value, `"`)
		if !slices.Contains([]string{"lattice/api", "math/bits", "strconv", "strings"}, path) {
			t.Errorf("fixed imports %s", path)
		}
	}
}
