// Package ways_test holds what the document's section 'Ways', its map, and the language's rules say of how the layers are built: a file for each layer, and this one for what they share.
package ways_test

import (
	"go/ast"
	"go/importer"
	"go/parser"
	"go/token"
	"go/types"
	"path/filepath"
	"strings"
	"testing"
)

const module = "lattice/"

// project is what was read of the project's packages, with the types of all that stands in them.
type project struct {
	files   *token.FileSet
	info    *types.Info
	library types.Importer
	packs   map[string]*layer
}

// layer is one package, and where its names are declared.
type layer struct {
	name  string
	files []*ast.File
	types *types.Package
	info  *types.Info
	decls map[types.Object]ast.Node
}

// layerOf reads a package, and those that it imports, without its tests.
func layerOf(t *testing.T, name string) *layer {
	t.Helper()
	files := token.NewFileSet()
	p := &project{files, &types.Info{
		Types:      map[ast.Expr]types.TypeAndValue{},
		Defs:       map[*ast.Ident]types.Object{},
		Uses:       map[*ast.Ident]types.Object{},
		Selections: map[*ast.SelectorExpr]*types.Selection{},
	}, importer.ForCompiler(files, "source", nil), map[string]*layer{}}
	l, err := p.load(name)
	if err != nil {
		t.Fatal(err)
	}
	return l
}

// Import makes a project the importer of its own packages' types.
func (p *project) Import(path string) (*types.Package, error) {
	name, own := strings.CutPrefix(path, module)
	if !own {
		return p.library.Import(path)
	}
	l, err := p.load(name)
	if err != nil {
		return nil, err
	}
	return l.types, nil
}

func (p *project) load(name string) (*layer, error) {
	if l := p.packs[name]; l != nil {
		return l, nil
	}
	parsed, err := parsed(p.files, name)
	if err != nil {
		return nil, err
	}
	l := &layer{name: name, files: parsed, info: p.info, decls: map[types.Object]ast.Node{}}
	check := types.Config{Importer: p}
	if l.types, err = check.Check(module+name, p.files, l.files, p.info); err != nil {
		return nil, err
	}
	for _, f := range l.files {
		for _, d := range f.Decls {
			l.declare(d)
		}
	}
	p.packs[name] = l
	return l, nil
}

// parsed are a package's files but for its tests.
func parsed(files *token.FileSet, name string) ([]*ast.File, error) {
	paths, err := filepath.Glob(filepath.Join("..", name, "*.go"))
	if err != nil {
		return nil, err
	}
	var all []*ast.File
	for _, path := range paths {
		if strings.HasSuffix(path, "_test.go") {
			continue
		}
		f, err := parser.ParseFile(files, path, nil, 0)
		if err != nil {
			return nil, err
		}
		all = append(all, f)
	}
	return all, nil
}

func (l *layer) declare(d ast.Decl) {
	switch x := d.(type) {
	case *ast.FuncDecl:
		l.decls[l.info.Defs[x.Name]] = x
	case *ast.GenDecl:
		for _, s := range x.Specs {
			switch y := s.(type) {
			case *ast.TypeSpec:
				l.decls[l.info.Defs[y.Name]] = y
			case *ast.ValueSpec:
				for _, n := range y.Names {
					l.decls[l.info.Defs[n]] = x // the whole group: a constant may repeat the line above it
				}
			}
		}
	}
}

// object is what the layer calls by that name: Type.Method, or what stands alone.
func (l *layer) object(name string) types.Object {
	kind, method, ok := strings.Cut(name, ".")
	o := l.types.Scope().Lookup(kind)
	if !ok || o == nil {
		return o
	}
	o, _, _ = types.LookupFieldOrMethod(o.Type(), true, l.types, method)
	return o
}

// reaches: is there, in what the function of that name uses of its layer, step by step, something that is asked for?
func (l *layer) reaches(t *testing.T, from string, asked func(*layer, ast.Node) bool) bool {
	t.Helper()
	first := l.object(from)
	if l.decls[first] == nil {
		t.Fatalf("%s has no %s", l.name, from)
	}
	found := false
	seen, work := map[types.Object]bool{first: true}, []types.Object{first}
	for len(work) > 0 && !found {
		o := work[0]
		work = work[1:]
		ast.Inspect(l.decls[o], func(n ast.Node) bool {
			found = found || n != nil && asked(l, n)
			if name, ok := n.(*ast.Ident); ok {
				if used := l.info.Uses[name]; l.decls[used] != nil && !seen[used] {
					seen[used] = true
					work = append(work, used)
				}
			}
			return !found
		})
	}
	return found
}

// every holds that each of the functions reaches what is asked for.
func (l *layer) every(t *testing.T, what string, asked func(*layer, ast.Node) bool, names ...string) {
	t.Helper()
	for _, name := range names {
		if !l.reaches(t, name, asked) {
			t.Errorf("%s.%s: %s", l.name, name, what)
		}
	}
}

// under is what the type of an expression is made of.
func (l *layer) under(x ast.Expr) types.Type {
	if t := l.info.TypeOf(x); t != nil {
		return t.Underlying()
	}
	return nil
}

// uses: is it the name of that thing of the library, such as math.Float64bits?
func uses(full string) func(*layer, ast.Node) bool {
	return func(l *layer, n ast.Node) bool {
		name, ok := n.(*ast.Ident)
		if !ok {
			return false
		}
		o := l.info.Uses[name]
		return o != nil && o.Pkg() != nil && o.Pkg().Path()+"."+o.Name() == full
	}
}

// numbers: is it a group of constants of that type, numbered by iota?
func numbers(kind string) func(*layer, ast.Node) bool {
	return func(l *layer, n ast.Node) bool {
		group, ok := n.(*ast.GenDecl)
		if !ok || group.Tok != token.CONST {
			return false
		}
		first, ok := group.Specs[0].(*ast.ValueSpec)
		if !ok || len(first.Values) != 1 {
			return false
		}
		o, of := l.info.Defs[first.Names[0]], l.object(kind)
		return of != nil && types.Identical(o.Type(), of.Type()) && mentions(l, first.Values[0], types.Universe.Lookup("iota"))
	}
}

// mentions: does the name of that thing stand in it?
func mentions(l *layer, n ast.Node, o types.Object) bool {
	return inside(l, n, func(l *layer, n ast.Node) bool {
		name, ok := n.(*ast.Ident)
		return ok && l.info.Uses[name] == o
	})
}

// inside: is something that is asked for it, or in it?
func inside(l *layer, n ast.Node, asked func(*layer, ast.Node) bool) bool {
	found := false
	ast.Inspect(n, func(n ast.Node) bool {
		found = found || n != nil && asked(l, n)
		return !found
	})
	return found
}
