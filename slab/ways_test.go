package slab_test

import (
	"go/ast"
	"go/parser"
	"go/token"
	"path/filepath"
	"testing"
)

// code parses the package's own files.
func code(t *testing.T) []*ast.File {
	t.Helper()
	names, _ := filepath.Glob("*.go")
	var files []*ast.File
	for _, name := range names {
		if is, _ := filepath.Match("*_test.go", name); is {
			continue
		}
		file, err := parser.ParseFile(token.NewFileSet(), name, nil, 0)
		if err != nil {
			t.Fatal(err)
		}
		files = append(files, file)
	}
	return files
}

// Ways: the sizes stand in a table of constants at package level; a page's lot behind a Give is decided by a switch whose cases fall through.
func TestWays(t *testing.T) {
	table, falls := false, false
	for _, file := range code(t) {
		for _, part := range file.Decls {
			switch x := part.(type) {
			case *ast.GenDecl:
				table = table || holdsSizes(x)
			case *ast.FuncDecl:
				falls = falls || x.Name.Name == "Give" && fallsThrough(x)
			}
		}
	}
	if !table || !falls {
		t.Errorf("the table of sizes: %v; the switch that falls through: %v", table, falls)
	}
}

// holdsSizes says whether a table of just the eight sizes is declared.
func holdsSizes(part ast.Node) bool {
	sizes := []string{"16", "32", "64", "128", "256", "512", "1024", "2048"}
	found := false
	ast.Inspect(part, func(n ast.Node) bool {
		list, is := n.(*ast.CompositeLit)
		if !is || len(list.Elts) != len(sizes) {
			return true
		}
		found = true
		for i, one := range list.Elts {
			number, is := one.(*ast.BasicLit)
			found = found && is && number.Value == sizes[i]
		}
		return false
	})
	return found
}

func fallsThrough(part ast.Node) bool {
	found := false
	ast.Inspect(part, func(n ast.Node) bool {
		jump, is := n.(*ast.BranchStmt)
		found = found || is && jump.Tok == token.FALLTHROUGH
		return true
	})
	return found
}
