package malloc_test

import (
	"go/ast"
	"go/parser"
	"go/token"
	"go/types"
	"path/filepath"
	"reflect"
	"sync"
	"testing"

	"croft/malloc"
)

// code parses the package's own files.
func code(t *testing.T) []*ast.File {
	t.Helper()
	names, _ := filepath.Glob("*.go")
	var files []*ast.File
	for _, name := range names {
		if is, _ := filepath.Match("*_test.go", name); is {
			continue
		}
		file, err := parser.ParseFile(token.NewFileSet(), name, nil, 0)
		if err != nil {
			t.Fatal(err)
		}
		files = append(files, file)
	}
	return files
}

// Ways: each call of a heap begins by taking the guard, which is let go by defer.
func TestGuarded(t *testing.T) {
	calls := 0
	for _, file := range code(t) {
		for _, part := range file.Decls {
			call, is := part.(*ast.FuncDecl)
			if !is || call.Recv == nil || !call.Name.IsExported() {
				continue
			}
			calls++
			if !guarded(call.Body.List) {
				t.Errorf("%s does not hold the guard from its beginning to its end", call.Name.Name)
			}
		}
	}
	if want := reflect.TypeFor[*malloc.Heap]().NumMethod(); calls != want {
		t.Errorf("%d calls, not %d", calls, want)
	}
}

func guarded(body []ast.Stmt) bool {
	if len(body) < 3 {
		return false
	}
	take, is := body[0].(*ast.ExprStmt)
	give, also := body[1].(*ast.DeferStmt)
	return is && also && types.ExprString(take.X) == "h.guard.Lock()" && types.ExprString(give.Call) == "h.guard.Unlock()"
}

// Ways: a mutex is one of a heap's fields; a live block stands in no map, nor in any list of the heap's own.
func TestFields(t *testing.T) {
	heap := reflect.TypeFor[malloc.Heap]()
	mutex := false
	for i := range heap.NumField() {
		field := heap.Field(i).Type
		mutex = mutex || field == reflect.TypeFor[sync.Mutex]()
		if kind := field.Kind(); kind == reflect.Map || kind == reflect.Slice {
			t.Errorf("the field %s is a %v", heap.Field(i).Name, kind)
		}
	}
	if !mutex {
		t.Error("a heap has no mutex")
	}
	for _, file := range code(t) {
		ast.Inspect(file, func(n ast.Node) bool {
			if _, is := n.(*ast.MapType); is {
				t.Error("there is a map")
			}
			return true
		})
	}
}
