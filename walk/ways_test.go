package walk_test

import (
	"go/ast"
	"go/parser"
	"go/token"
	"go/types"
	"path/filepath"
	"testing"
)

// code parses the package's own files.
func code(t *testing.T) []*ast.File {
	t.Helper()
	names, _ := filepath.Glob("*.go")
	var files []*ast.File
	for _, name := range names {
		if is, _ := filepath.Match("*_test.go", name); is {
			continue
		}
		file, err := parser.ParseFile(token.NewFileSet(), name, nil, 0)
		if err != nil {
			t.Fatal(err)
		}
		files = append(files, file)
	}
	return files
}

// Ways: the eleven rules are function values in fields of a table's rows.
func TestTable(t *testing.T) {
	field, rows := false, 0
	for _, file := range code(t) {
		ast.Inspect(file, func(n ast.Node) bool {
			switch x := n.(type) {
			case *ast.Field:
				_, is := x.Type.(*ast.FuncType)
				field = field || is && len(x.Names) == 1
			case *ast.CompositeLit:
				if list, is := x.Type.(*ast.ArrayType); is && types.ExprString(list.Elt) == "row" {
					rows = len(x.Elts)
				}
			}
			return true
		})
	}
	if !field || rows != 11 {
		t.Errorf("a field for a function: %v; %d rows", field, rows)
	}
}

// Ways: what is broken is told by panic; Check catches it by recover in a deferred function literal, at one place.
func TestThrown(t *testing.T) {
	panics, recovers := 0, 0
	for _, file := range code(t) {
		ast.Inspect(file, func(n ast.Node) bool {
			switch x := n.(type) {
			case *ast.CallExpr:
				if types.ExprString(x.Fun) == "panic" {
					panics++
				}
			case *ast.DeferStmt:
				recovers += recoversIn(x)
			}
			return true
		})
	}
	if panics == 0 || recovers != 1 {
		t.Errorf("%d panics, %d deferred recovers", panics, recovers)
	}
}

// recoversIn counts the calls of recover in a deferred function literal.
func recoversIn(d *ast.DeferStmt) int {
	count := 0
	if body, is := d.Call.Fun.(*ast.FuncLit); is {
		ast.Inspect(body, func(n ast.Node) bool {
			if call, is := n.(*ast.CallExpr); is && types.ExprString(call.Fun) == "recover" {
				count++
			}
			return true
		})
	}
	return count
}

// DOC.md's map: the layer calls bits, beside api.
func TestCalls(t *testing.T) {
	for _, file := range code(t) {
		for _, part := range file.Imports {
			if path := part.Path.Value; path != `"croft/api"` && path != `"croft/bits"` {
				t.Errorf("it imports %s", path)
			}
		}
	}
}
