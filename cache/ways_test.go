package cache_test

import (
	"go/ast"
	"go/parser"
	"go/token"
	"go/types"
	"path/filepath"
	"reflect"
	"slices"
	"sync"
	"testing"

	"croft/cache"
)

// code parses the package's own files.
func code(t *testing.T) []*ast.File {
	t.Helper()
	names, _ := filepath.Glob("*.go")
	var files []*ast.File
	for _, name := range names {
		if is, _ := filepath.Match("*_test.go", name); is {
			continue
		}
		file, err := parser.ParseFile(token.NewFileSet(), name, nil, 0)
		if err != nil {
			t.Fatal(err)
		}
		files = append(files, file)
	}
	return files
}

// functions tells the package's own by their names.
func functions(t *testing.T) map[string]*ast.FuncDecl {
	t.Helper()
	list := map[string]*ast.FuncDecl{}
	for _, file := range code(t) {
		for _, part := range file.Decls {
			if f, is := part.(*ast.FuncDecl); is {
				list[f.Name.Name] = f
			}
		}
	}
	return list
}

// reached tells the functions that one calls, by itself and by others.
func reached(list map[string]*ast.FuncDecl, name string, seen map[string]bool) {
	if list[name] == nil || seen[name] {
		return
	}
	seen[name] = true
	ast.Inspect(list[name], func(n ast.Node) bool {
		if call, is := n.(*ast.CallExpr); is {
			switch f := call.Fun.(type) {
			case *ast.Ident:
				reached(list, f.Name, seen)
			case *ast.SelectorExpr:
				reached(list, f.Sel.Name, seen)
			}
		}
		return true
	})
}

// Ways: each call of a Shared begins by taking the guard, which is let go by defer.
func TestGuarded(t *testing.T) {
	calls := 0
	for _, f := range functions(t) {
		if f.Recv == nil || !f.Name.IsExported() {
			continue
		}
		calls++
		if !guarded(f.Body.List) {
			t.Errorf("%s does not hold the guard from its beginning to its end", f.Name.Name)
		}
	}
	if want := reflect.TypeFor[*cache.Shared]().NumMethod(); calls != want {
		t.Errorf("%d calls, not %d", calls, want)
	}
}

// guarded says whether a body begins so.
func guarded(body []ast.Stmt) bool {
	if len(body) < 3 {
		return false
	}
	take, is := body[0].(*ast.ExprStmt)
	give, also := body[1].(*ast.DeferStmt)
	return is && also && types.ExprString(take.X) == "s.guard.Lock()" && types.ExprString(give.Call) == "s.guard.Unlock()"
}

// Ways: a mutex is one of the fields, and no lock is let go but by defer.
func TestLocks(t *testing.T) {
	shared, mutex := reflect.TypeFor[cache.Shared](), false
	for i := range shared.NumField() {
		mutex = mutex || shared.Field(i).Type == reflect.TypeFor[sync.Mutex]()
	}
	if !mutex {
		t.Error("a Shared has no mutex")
	}
	for name, f := range functions(t) {
		locks, deferred := 0, 0
		ast.Inspect(f, func(n ast.Node) bool {
			switch x := n.(type) {
			case *ast.SelectorExpr:
				if x.Sel.Name == "Lock" {
					locks++
				}
			case *ast.DeferStmt:
				if call, is := x.Call.Fun.(*ast.SelectorExpr); is && call.Sel.Name == "Unlock" {
					deferred++
				}
			}
			return true
		})
		if locks != deferred {
			t.Errorf("%s takes %d locks, and lets go of %d by defer", name, locks, deferred)
		}
	}
}

// stormWays counts what a Storm reaches.
func stormWays(t *testing.T) map[string]int {
	t.Helper()
	list, seen, count := functions(t), map[string]bool{}, map[string]int{}
	reached(list, "Storm", seen)
	for name := range seen {
		ast.Inspect(list[name], func(n ast.Node) bool {
			switch x := n.(type) {
			case *ast.GoStmt:
				count["go"]++
			case *ast.SendStmt:
				count["send"]++
			case *ast.SelectStmt:
				count["select"] += len(x.Body.List)
			case *ast.CallExpr:
				count[types.ExprString(x.Fun)]++
			}
			return true
		})
	}
	return count
}

// Ways: the workers of a Storm are goroutines that wait at a channel for the start, with a select for a stop; their answers come over another one, that is closed behind a WaitGroup; how many are at work is an atomic number.
func TestStormWays(t *testing.T) {
	count := stormWays(t)
	for what, least := range map[string]int{
		"go": 1, "send": 1, "select": 2, "close": 3, "st.all.Wait": 1, "st.all.Add": 1, "st.all.Done": 1, "st.atWork.Add": 2, "st.atWork.Load": 1, "st.turn.Lock": 1,
	} {
		if count[what] < least {
			t.Errorf("%s: %d", what, count[what])
		}
	}
}

// DOC.md's map: the layer calls malloc and script, beside api; of the others it takes the powers of two alone.
func TestImports(t *testing.T) {
	may := []string{`"croft/api"`, `"croft/bits"`, `"croft/malloc"`, `"croft/script"`, `"math"`, `"slices"`, `"sync"`, `"sync/atomic"`}
	for _, file := range code(t) {
		for _, part := range file.Imports {
			if !slices.Contains(may, part.Path.Value) {
				t.Errorf("it imports %s", part.Path.Value)
			}
		}
	}
}
