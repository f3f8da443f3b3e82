package oracle_test

import (
	"go/ast"
	"go/parser"
	"go/token"
	"go/types"
	"path/filepath"
	"testing"
)

// code parses the package's own files.
func code(t *testing.T) []*ast.File {
	t.Helper()
	names, _ := filepath.Glob("*.go")
	var files []*ast.File
	for _, name := range names {
		if is, _ := filepath.Match("*_test.go", name); is {
			continue
		}
		file, err := parser.ParseFile(token.NewFileSet(), name, nil, 0)
		if err != nil {
			t.Fatal(err)
		}
		files = append(files, file)
	}
	return files
}

// functions tells the package's own by their names.
func functions(t *testing.T) map[string]*ast.FuncDecl {
	t.Helper()
	list := map[string]*ast.FuncDecl{}
	for _, file := range code(t) {
		for _, part := range file.Decls {
			if f, is := part.(*ast.FuncDecl); is {
				list[f.Name.Name] = f
			}
		}
	}
	return list
}

// calls tells the names of what a function calls, by itself and by others.
func calls(list map[string]*ast.FuncDecl, name string, seen map[string]bool) {
	if list[name] == nil || seen[name] {
		return
	}
	seen[name] = true
	ast.Inspect(list[name], func(n ast.Node) bool {
		if call, is := n.(*ast.CallExpr); is {
			switch f := call.Fun.(type) {
			case *ast.Ident:
				calls(list, f.Name, seen)
			case *ast.SelectorExpr:
				calls(list, f.Sel.Name, seen)
			}
		}
		return true
	})
}

// mapOf tells the map type of pages by their numbers.
func mapOf(t *testing.T) string {
	t.Helper()
	name := ""
	for _, file := range code(t) {
		ast.Inspect(file, func(n ast.Node) bool {
			if is, ok := n.(*ast.TypeSpec); ok {
				if m, ok := is.Type.(*ast.MapType); ok && types.ExprString(m.Value) == "page" && types.ExprString(m.Key) == "uint64" {
					name = is.Name.Name
				}
			}
			return true
		})
	}
	return name
}

// rangesOver tells whether a function ranges over its receiver, which is of that type.
func rangesOver(f *ast.FuncDecl, name string) bool {
	if f.Recv == nil || types.ExprString(f.Recv.List[0].Type) != name {
		return false
	}
	found := false
	ast.Inspect(f, func(n ast.Node) bool {
		if loop, is := n.(*ast.RangeStmt); is {
			found = found || types.ExprString(loop.X) == f.Recv.List[0].Names[0].Name
		}
		return true
	})
	return found
}

// Ways: pages are kept in a map by their numbers; NoFit and Least go through it.
func TestMaps(t *testing.T) {
	name := mapOf(t)
	if name == "" {
		t.Fatal("no map of pages by their numbers")
	}
	list := functions(t)
	for _, face := range []string{"NoFit", "Stuck", "Least"} {
		seen, found := map[string]bool{}, false
		calls(list, face, seen)
		for other := range seen {
			found = found || rangesOver(list[other], name)
		}
		if !found {
			t.Errorf("%s does not go through the pages", face)
		}
	}
}

// DOC.md's map: the layer calls bits, beside api.
func TestCalls(t *testing.T) {
	for _, file := range code(t) {
		for _, part := range file.Imports {
			switch part.Path.Value {
			case `"croft/api"`, `"croft/bits"`, `"math"`:
			default:
				t.Errorf("it imports %s", part.Path.Value)
			}
		}
	}
}
