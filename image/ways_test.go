package image_test

import (
	"go/ast"
	"go/parser"
	"go/token"
	"go/types"
	"path/filepath"
	"testing"
)

// code parses the package's own files.
func code(t *testing.T) []*ast.File {
	t.Helper()
	names, _ := filepath.Glob("*.go")
	var files []*ast.File
	for _, name := range names {
		if is, _ := filepath.Match("*_test.go", name); is {
			continue
		}
		file, err := parser.ParseFile(token.NewFileSet(), name, nil, 0)
		if err != nil {
			t.Fatal(err)
		}
		files = append(files, file)
	}
	return files
}

// functions tells the package's own by their names.
func functions(t *testing.T) map[string]*ast.FuncDecl {
	t.Helper()
	list := map[string]*ast.FuncDecl{}
	for _, file := range code(t) {
		for _, part := range file.Decls {
			if f, is := part.(*ast.FuncDecl); is {
				list[f.Name.Name] = f
			}
		}
	}
	return list
}

// calls tells the names of what a function calls, by itself and by others.
func calls(list map[string]*ast.FuncDecl, name string, seen map[string]bool) {
	if list[name] == nil || seen[name] {
		return
	}
	seen[name] = true
	ast.Inspect(list[name], func(n ast.Node) bool {
		if call, is := n.(*ast.CallExpr); is {
			switch f := call.Fun.(type) {
			case *ast.Ident:
				calls(list, f.Name, seen)
			case *ast.SelectorExpr:
				calls(list, f.Sel.Name, seen)
			}
		}
		return true
	})
}

// Ways: Bytes joins its pieces, lists of bytes, by a variadic function.
func TestVariadic(t *testing.T) {
	list, seen := functions(t), map[string]bool{}
	calls(list, "Bytes", seen)
	found := false
	for name := range seen {
		for _, field := range list[name].Type.Params.List {
			pieces, is := field.Type.(*ast.Ellipsis)
			found = found || is && types.ExprString(pieces.Elt) == "[]byte"
		}
	}
	if !found {
		t.Error("no variadic function of pieces is called")
	}
}

// Ways: Parse takes each part as a slice with a third index, and by no other slice.
func TestThirdIndex(t *testing.T) {
	list, seen := functions(t), map[string]bool{}
	calls(list, "Parse", seen)
	third := 0
	for name := range seen {
		ast.Inspect(list[name], func(n ast.Node) bool {
			if part, is := n.(*ast.SliceExpr); is {
				if part.Slice3 {
					third++
				} else if part.Low != nil || part.High != nil {
					t.Errorf("%s has a slice without a third index", name)
				}
			}
			return true
		})
	}
	if third == 0 {
		t.Error("no slice has a third index")
	}
}

// DOC.md's map: the layer calls malloc and walk, beside api.
func TestCalls(t *testing.T) {
	for _, file := range code(t) {
		for _, part := range file.Imports {
			switch part.Path.Value {
			case `"croft/api"`, `"croft/malloc"`, `"croft/walk"`, `"math/bits"`, `"slices"`:
			default:
				t.Errorf("it imports %s", part.Path.Value)
			}
		}
	}
}
