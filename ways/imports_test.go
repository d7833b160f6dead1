package ways_test

import (
	"go/token"
	"slices"
	"strings"
	"testing"
)

// calls is the document's map: the layers by their order, and whom each of them calls beside api.
func calls() []struct {
	name  string
	below []int
} {
	return []struct {
		name  string
		below []int
	}{
		{"api", nil},
		{"fixed", nil},
		{"float", []int{1}},
		{"value", []int{1}},
		{"addr", []int{3}},
		{"lex", []int{1, 3, 4}},
		{"parse", []int{3, 4, 5}},
		{"show", []int{3, 5, 6}},
		{"move", []int{3, 4, 6}},
		{"nums", []int{1, 2, 3}},
		{"texts", []int{1, 3}},
		{"sums", []int{1, 3, 9}},
		{"looks", []int{1, 3, 11}},
		{"eval", []int{1, 3, 4, 6, 9, 10, 11, 12}},
		{"graph", nil},
		{"sheet", []int{3, 4, 6, 7, 8}},
		{"book", []int{3, 4, 6, 8, 13, 14, 15}},
		{"save", []int{3, 4, 15, 16}},
		{"packet", []int{3, 4, 16}},
		{"net", nil},
		{"flow", nil},
		{"cache", []int{3, 16}},
		{"subs", []int{3, 4, 16}},
		{"web", []int{16, 18}},
		{"trees", []int{4}},
		{"node", []int{3, 4, 8, 15, 16, 18, 20, 21, 22, 23, 24}},
		{"fed", []int{3, 4, 8, 16, 17, 19, 20, 21, 25}},
		{"script", []int{4}},
		{"console", []int{3, 4, 5, 8, 16, 26, 27}},
	}
}

// library is what the language's rules let a package lean on.
func library() []string {
	return strings.Fields(`bytes cmp container/heap errors iter maps math math/bits slices sort strconv strings
		sync sync/atomic unicode unicode/utf8`)
}

// TestImports holds that each layer calls those that the map names, and nothing else but the language's library.
func TestImports(t *testing.T) {
	layers := calls()
	for _, l := range layers {
		may := library()
		if l.name != "api" {
			may = append(may, module+"api")
		}
		for _, k := range l.below {
			may = append(may, module+layers[k].name)
		}
		files, err := parsed(token.NewFileSet(), l.name)
		if err != nil {
			t.Fatal(err)
		}
		if len(files) == 0 {
			t.Errorf("%s has no files", l.name)
		}
		for _, f := range files {
			for _, x := range f.Imports {
				if path := strings.Trim(x.Path.Value, `"`); !slices.Contains(may, path) {
					t.Errorf("%s imports %s", l.name, path)
				}
			}
		}
	}
}
