package script_test

import (
	"go/ast"
	"go/parser"
	"go/token"
	"go/types"
	"path/filepath"
	"testing"

	"croft/api"
)

// code parses the package's own files.
func code(t *testing.T) []*ast.File {
	t.Helper()
	names, _ := filepath.Glob("*.go")
	var files []*ast.File
	for _, name := range names {
		if is, _ := filepath.Match("*_test.go", name); is {
			continue
		}
		file, err := parser.ParseFile(token.NewFileSet(), name, nil, 0)
		if err != nil {
			t.Fatal(err)
		}
		files = append(files, file)
	}
	return files
}

// functions tells the package's own by their names.
func functions(t *testing.T) map[string]*ast.FuncDecl {
	t.Helper()
	list := map[string]*ast.FuncDecl{}
	for _, file := range code(t) {
		for _, part := range file.Decls {
			if f, is := part.(*ast.FuncDecl); is {
				list[f.Name.Name] = f
			}
		}
	}
	return list
}

// reached tells the functions that one calls, by itself and by others.
func reached(list map[string]*ast.FuncDecl, name string, seen map[string]bool) {
	if list[name] == nil || seen[name] {
		return
	}
	seen[name] = true
	ast.Inspect(list[name], func(n ast.Node) bool {
		if call, is := n.(*ast.CallExpr); is {
			switch f := call.Fun.(type) {
			case *ast.Ident:
				reached(list, f.Name, seen)
			case *ast.SelectorExpr:
				reached(list, f.Sel.Name, seen)
			}
		}
		return true
	})
}

// methodValues tells the methods of the package that a function takes as values.
func methodValues(list map[string]*ast.FuncDecl, f *ast.FuncDecl) map[string]bool {
	values, called := map[string]bool{}, map[ast.Expr]bool{}
	ast.Inspect(f, func(n ast.Node) bool {
		switch x := n.(type) {
		case *ast.CallExpr:
			called[x.Fun] = true
		case *ast.SelectorExpr:
			if method := list[x.Sel.Name]; method != nil && method.Recv != nil && !called[x] {
				values[x.Sel.Name] = true
			}
		}
		return true
	})
	return values
}

// Ways: calls are done by method values, one for each Op.
func TestMethodValues(t *testing.T) {
	list := functions(t)
	for _, face := range []string{"One", "Play"} {
		seen, values := map[string]bool{}, map[string]bool{}
		reached(list, face, seen)
		for name := range seen {
			for value := range methodValues(list, list[name]) {
				values[value] = true
			}
		}
		if len(values) < api.OpStats {
			t.Errorf("%s takes %d method values", face, len(values))
		}
	}
}

// rangesOverText tells whether a function ranges over one of its texts.
func rangesOverText(f *ast.FuncDecl) bool {
	texts, found := map[string]bool{}, false
	for _, field := range f.Type.Params.List {
		for _, name := range field.Names {
			texts[name.Name] = types.ExprString(field.Type) == "string"
		}
	}
	ast.Inspect(f, func(n ast.Node) bool {
		if loop, is := n.(*ast.RangeStmt); is {
			found = found || texts[types.ExprString(loop.X)]
		}
		return true
	})
	return found
}

// Ways: words are found by a range over a string.
func TestRangeOverText(t *testing.T) {
	list, seen, found := functions(t), map[string]bool{}, false
	reached(list, "Parse", seen)
	for name := range seen {
		found = found || rangesOverText(list[name])
	}
	if !found {
		t.Error("Parse ranges over no text")
	}
}

// DOC.md's map: the layer calls malloc, beside api.
func TestCalls(t *testing.T) {
	for _, file := range code(t) {
		for _, part := range file.Imports {
			switch part.Path.Value {
			case `"croft/api"`, `"croft/malloc"`, `"strconv"`, `"strings"`:
			default:
				t.Errorf("it imports %s", part.Path.Value)
			}
		}
	}
}
