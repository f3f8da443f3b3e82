package vault_test

import (
	"go/ast"
	"go/parser"
	"go/token"
	"go/types"
	"path/filepath"
	"reflect"
	"slices"
	"strings"
	"testing"

	"croft/vault"
)

// code parses the package's own files.
func code(t *testing.T) []*ast.File {
	t.Helper()
	names, _ := filepath.Glob("*.go")
	var files []*ast.File
	for _, name := range names {
		if is, _ := filepath.Match("*_test.go", name); is {
			continue
		}
		file, err := parser.ParseFile(token.NewFileSet(), name, nil, 0)
		if err != nil {
			t.Fatal(err)
		}
		files = append(files, file)
	}
	return files
}

// Ways: handles stand in a map: one field of a vault is one with handles as keys, and has just the handles that there are.
func TestMap(t *testing.T) {
	v := newVault(t, example())
	takesAll(t, v, 16, 16, 16, 16)
	frees(t, v, 2, 3)
	count := 0
	is := reflect.ValueOf(v).Elem()
	for i := range is.NumField() {
		if f := is.Field(i); f.Kind() == reflect.Map && f.Type().Key() == reflect.TypeFor[int]() {
			count++
			if f.Len() != 2 || f.MapIndex(reflect.ValueOf(4)).Kind() == reflect.Invalid {
				t.Errorf("a map with %d keys", f.Len())
			}
		}
	}
	if count != 1 {
		t.Errorf("%d maps with handles as keys in %v", count, reflect.TypeFor[vault.Vault]())
	}
}

// Ways: blocks are put in order by a function literal that compares two.
func TestClosure(t *testing.T) {
	count := 0
	for _, file := range code(t) {
		ast.Inspect(file, func(n ast.Node) bool {
			call, is := n.(*ast.CallExpr)
			if !is || !strings.HasPrefix(types.ExprString(call.Fun), "slices.Sort") {
				return true
			}
			if compares, is := call.Args[len(call.Args)-1].(*ast.FuncLit); is && compares.Type.Params.NumFields() == 2 {
				count++
			}
			return true
		})
	}
	if count == 0 {
		t.Error("no order by a function literal")
	}
}

// DOC.md's map: the layer calls malloc, image and oracle, beside api.
func TestImports(t *testing.T) {
	may := []string{`"croft/api"`, `"croft/image"`, `"croft/malloc"`, `"croft/oracle"`, `"cmp"`, `"maps"`, `"slices"`}
	for _, file := range code(t) {
		for _, part := range file.Imports {
			if !slices.Contains(may, part.Path.Value) {
				t.Errorf("it imports %s", part.Path.Value)
			}
		}
	}
}
