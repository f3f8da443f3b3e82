package quota_test

import (
	"go/ast"
	"go/parser"
	"go/token"
	"go/types"
	"path/filepath"
	"slices"
	"testing"
)

// code parses the package's own files.
func code(t *testing.T) []*ast.File {
	t.Helper()
	names, _ := filepath.Glob("*.go")
	var files []*ast.File
	for _, name := range names {
		if is, _ := filepath.Match("*_test.go", name); is {
			continue
		}
		file, err := parser.ParseFile(token.NewFileSet(), name, nil, 0)
		if err != nil {
			t.Fatal(err)
		}
		files = append(files, file)
	}
	return files
}

// functions tells the package's own by their names.
func functions(t *testing.T) map[string]*ast.FuncDecl {
	t.Helper()
	list := map[string]*ast.FuncDecl{}
	for _, file := range code(t) {
		for _, part := range file.Decls {
			if f, is := part.(*ast.FuncDecl); is {
				list[f.Name.Name] = f
			}
		}
	}
	return list
}

// called tells what a piece of code calls, by itself and by the package's functions.
func called(list map[string]*ast.FuncDecl, piece ast.Node, seen map[string]bool) {
	ast.Inspect(piece, func(n ast.Node) bool {
		call, is := n.(*ast.CallExpr)
		if !is {
			return true
		}
		name := types.ExprString(call.Fun)
		if f, is := call.Fun.(*ast.SelectorExpr); is {
			name = f.Sel.Name
		}
		if !seen[name] {
			seen[name] = true
			if f := list[name]; f != nil {
				called(list, f.Body, seen)
			}
		}
		return true
	})
}

// Ways: owners stand in a map by their numbers, each one's blocks in a map by their addresses: both are fields.
func TestMaps(t *testing.T) {
	keys := []string{}
	for _, file := range code(t) {
		ast.Inspect(file, func(n ast.Node) bool {
			if is, ok := n.(*ast.StructType); ok {
				for _, field := range is.Fields.List {
					if m, ok := field.Type.(*ast.MapType); ok {
						keys = append(keys, types.ExprString(m.Key))
					}
				}
			}
			return true
		})
	}
	slices.Sort(keys)
	if !slices.Equal(keys, []string{"int", "uint64"}) {
		t.Errorf("fields that are maps have the keys %v", keys)
	}
}

// Ways: they are deleted as they go, and each call that changes what owners have sees to the sums in a deferred function literal.
func TestDeferred(t *testing.T) {
	list := functions(t)
	for name, deletes := range map[string]bool{"Malloc": false, "Realloc": true, "Free": true, "Pass": true, "Close": true} {
		count := 0
		seen := map[string]bool{}
		ast.Inspect(list[name], func(n ast.Node) bool {
			if later, is := n.(*ast.DeferStmt); is {
				if literal, is := later.Call.Fun.(*ast.FuncLit); is {
					count++
					called(list, literal.Body, seen)
				}
			}
			return true
		})
		if count != 1 || deletes && !seen["delete"] {
			t.Errorf("%s: %d deferred function literals, in which %v is called", name, count, seen)
		}
	}
}

// DOC.md's map: the layer calls malloc and oracle, beside api.
func TestImports(t *testing.T) {
	may := []string{`"croft/api"`, `"croft/malloc"`, `"croft/oracle"`, `"maps"`, `"slices"`}
	for _, file := range code(t) {
		for _, part := range file.Imports {
			if !slices.Contains(may, part.Path.Value) {
				t.Errorf("it imports %s", part.Path.Value)
			}
		}
	}
}
