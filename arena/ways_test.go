package arena_test

import (
	"go/ast"
	"go/parser"
	"go/token"
	"go/types"
	"path/filepath"
	"reflect"
	"slices"
	"strings"
	"sync"
	"testing"

	"croft/arena"
)

// code parses the package's own files.
func code(t *testing.T) []*ast.File {
	t.Helper()
	names, _ := filepath.Glob("*.go")
	var files []*ast.File
	for _, name := range names {
		if is, _ := filepath.Match("*_test.go", name); is {
			continue
		}
		file, err := parser.ParseFile(token.NewFileSet(), name, nil, 0)
		if err != nil {
			t.Fatal(err)
		}
		files = append(files, file)
	}
	return files
}

// inspect goes through all of the package's code.
func inspect(t *testing.T, look func(n ast.Node)) {
	t.Helper()
	for _, file := range code(t) {
		ast.Inspect(file, func(n ast.Node) bool {
			look(n)
			return true
		})
	}
}

// keeps tells the pointers that an arena keeps, but for its heap, and whether each is nil.
func keeps(a *arena.Arena) map[uintptr]bool {
	list := map[uintptr]bool{}
	is := reflect.ValueOf(a).Elem()
	for i := range is.NumField() {
		if f := is.Field(i); f.Kind() == reflect.Pointer && !strings.Contains(f.Type().String(), "Heap") {
			list[f.Pointer()] = f.IsNil()
		}
	}
	return list
}

// Ways: what an arena keeps for its marks is not there till it is asked for at first, and is the same from then on.
func TestMadeOnce(t *testing.T) {
	h := newHeap(t, example())
	a := newArena(t, h, 64)
	for range 3 {
		takes(t, a, 64, 1)
		if got := keeps(a); len(got) != 1 || !got[0] {
			t.Fatalf("ahead of the first Mark: %v", got)
		}
	}
	wantsMark(t, a, 0)
	first := keeps(a)
	for range 3 {
		takes(t, a, 64, 1)
		mark := a.Mark()
		releases(t, a, mark)
		a.Reset()
		if got := keeps(a); len(got) != 1 || got[0] || !reflect.DeepEqual(got, first) {
			t.Fatalf("%v, and ahead of that %v", got, first)
		}
	}
}

// Ways: it is made by a sync.Once of the arena's own.
func TestOnce(t *testing.T) {
	is := reflect.TypeFor[arena.Arena]()
	fields, calls := 0, 0
	for i := range is.NumField() {
		if is.Field(i).Type == reflect.TypeFor[sync.Once]() {
			fields++
		}
	}
	inspect(t, func(n ast.Node) {
		if call, is := n.(*ast.CallExpr); is && strings.HasSuffix(types.ExprString(call.Fun), ".Do") {
			calls++
		}
	})
	if fields != 1 || calls != 1 {
		t.Errorf("%d fields are a sync.Once, and %d calls do something once", fields, calls)
	}
}

// Ways: each Free of the heap is a deferred call, made ready in a range over the chunks.
func TestDeferred(t *testing.T) {
	frees, deferred, ranged := 0, 0, 0
	isFree := func(call *ast.CallExpr) bool { return strings.HasSuffix(types.ExprString(call.Fun), ".Free") }
	inspect(t, func(n ast.Node) {
		switch x := n.(type) {
		case *ast.CallExpr:
			if isFree(x) {
				frees++
			}
		case *ast.DeferStmt:
			if isFree(x.Call) {
				deferred++
			}
		case *ast.RangeStmt:
			for _, part := range x.Body.List {
				if later, is := part.(*ast.DeferStmt); is && isFree(later.Call) {
					ranged++
				}
			}
		}
	})
	if frees == 0 || deferred != frees || ranged != frees {
		t.Errorf("%d calls of Free, %d deferred, %d of these in a range", frees, deferred, ranged)
	}
}

// DOC.md's map: the layer calls malloc, beside api.
func TestImports(t *testing.T) {
	may := []string{`"croft/api"`, `"croft/malloc"`, `"cmp"`, `"slices"`, `"sync"`}
	for _, file := range code(t) {
		for _, part := range file.Imports {
			if !slices.Contains(may, part.Path.Value) {
				t.Errorf("it imports %s", part.Path.Value)
			}
		}
	}
}
