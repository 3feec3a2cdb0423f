package sum

import (
	"go/ast"
	"go/parser"
	"go/token"
	"path/filepath"
	"slices"
	"strings"
	"testing"
)

// named are, for each name that the package declares (of functions, methods, types, variables), all names in what it is.
func named(t *testing.T) map[string][]string {
	t.Helper()
	files, err := filepath.Glob("*.go")
	if err != nil {
		t.Fatal(err)
	}
	out := map[string][]string{}
	for _, f := range files {
		if strings.HasSuffix(f, "_test.go") {
			continue
		}
		a, err := parser.ParseFile(token.NewFileSet(), f, nil, 0)
		if err != nil {
			t.Fatal(err)
		}
		for _, d := range a.Decls {
			for _, n := range declared(d) {
				out[n] = append(out[n], all(d)...)
			}
		}
	}
	return out
}

// declared are the names that a declaration is of.
func declared(d ast.Decl) []string {
	if f, ok := d.(*ast.FuncDecl); ok {
		return []string{f.Name.Name}
	}
	var out []string
	for _, s := range d.(*ast.GenDecl).Specs {
		switch x := s.(type) {
		case *ast.TypeSpec:
			out = append(out, x.Name.Name)
		case *ast.ValueSpec:
			for _, n := range x.Names {
				out = append(out, n.Name)
			}
		}
	}
	return out
}

// all are all names that stand in a piece of the program.
func all(n ast.Node) []string {
	var out []string
	ast.Inspect(n, func(n ast.Node) bool {
		if x, ok := n.(*ast.Ident); ok {
			out = append(out, x.Name)
		}
		return true
	})
	return out
}

// reached are all names that stand in what a function is, in what these are, and so on.
func reached(t *testing.T, function string) []string {
	t.Helper()
	of := named(t)
	if of[function] == nil {
		t.Fatalf("there is no %s", function)
	}
	out := []string{function}
	for i := 0; i < len(out); i++ {
		for _, n := range of[out[i]] {
			if !slices.Contains(out, n) {
				out = append(out, n)
			}
		}
	}
	return out
}
