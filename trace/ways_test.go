package trace_test

import (
	"go/ast"
	"go/parser"
	"go/token"
	"go/types"
	"path/filepath"
	"reflect"
	"slices"
	"strings"
	"testing"

	"croft/trace"
)

// code parses the package's own files.
func code(t *testing.T) []*ast.File {
	t.Helper()
	names, _ := filepath.Glob("*.go")
	var files []*ast.File
	for _, name := range names {
		if is, _ := filepath.Match("*_test.go", name); is {
			continue
		}
		file, err := parser.ParseFile(token.NewFileSet(), name, nil, 0)
		if err != nil {
			t.Fatal(err)
		}
		files = append(files, file)
	}
	return files
}

// mapsOf tells how many entries each map of a store has whose keys are of a type.
func mapsOf[K any](s *trace.Store) []int {
	var list []int
	is := reflect.ValueOf(s).Elem()
	for i := range is.NumField() {
		if f := is.Field(i); f.Kind() == reflect.Map && f.Type().Key() == reflect.TypeFor[K]() {
			list = append(list, f.Len())
		}
	}
	slices.Sort(list)
	return list
}

// Ways: names and objects stand in maps, and what a collection marks in one that is cleared: behind each call there are just the names and the objects, and no mark.
func TestMaps(t *testing.T) {
	s, _ := begin(t, example())
	list := makesMany(t, s, 5, 1, 0)
	chains(t, s, list[2:]...)
	finals(t, s, list[1])
	roots(t, s, "a", list[2])
	roots(t, s, "b", list[2])
	for _, objects := range []int{5, 4, 3, 3} {
		if got := mapsOf[string](s); !slices.Equal(got, []int{2}) {
			t.Fatalf("maps by names: %v", got)
		}
		if got := mapsOf[uint64](s); !slices.Equal(got, []int{0, objects}) {
			t.Fatalf("maps by addresses: %v", got)
		}
		s.Collect()
	}
	unroots(t, s, "b")
	if got := mapsOf[string](s); !slices.Equal(got, []int{1}) {
		t.Fatalf("maps by names: %v", got)
	}
}

// LANGUAGE.md, rule 8: of weak numbers that refer to nothing any more a store keeps nothing but how many there were.
func TestWeakNumbersGo(t *testing.T) {
	s, _ := begin(t, example())
	for i := range 100 {
		weakens(t, s, makes(t, s, 0, 0), i+1)
	}
	s.Collect()
	if got := mapsOf[int](s); slices.ContainsFunc(got, func(n int) bool { return n != 0 }) {
		t.Errorf("maps by weak numbers: %v", got)
	}
	wantsWeak(t, s, make([]uint64, 100)...)
}

// Ways: the names' map is gone through by a range, and the marks are let go by clear.
func TestRangedAndCleared(t *testing.T) {
	ranged, cleared := 0, 0
	for _, file := range code(t) {
		ast.Inspect(file, func(n ast.Node) bool {
			switch x := n.(type) {
			case *ast.RangeStmt:
				if strings.HasSuffix(types.ExprString(x.X), ".names") {
					ranged++
				}
			case *ast.CallExpr:
				if types.ExprString(x.Fun) == "clear" {
					cleared++
				}
			}
			return true
		})
	}
	if ranged == 0 || cleared == 0 {
		t.Errorf("%d ranges over the names, %d calls of clear", ranged, cleared)
	}
}

// DOC.md's map: the layer calls malloc, beside api.
func TestImports(t *testing.T) {
	may := []string{`"croft/api"`, `"croft/malloc"`, `"cmp"`, `"maps"`, `"math"`, `"slices"`}
	for _, file := range code(t) {
		for _, part := range file.Imports {
			if !slices.Contains(may, part.Path.Value) {
				t.Errorf("it imports %s", part.Path.Value)
			}
		}
	}
}
