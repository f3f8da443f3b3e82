package count_test

import (
	"go/ast"
	"go/parser"
	"go/token"
	"go/types"
	"path/filepath"
	"reflect"
	"slices"
	"strings"
	"testing"
)

// code parses the package's own files.
func code(t *testing.T) []*ast.File {
	t.Helper()
	names, _ := filepath.Glob("*.go")
	var files []*ast.File
	for _, name := range names {
		if is, _ := filepath.Match("*_test.go", name); is {
			continue
		}
		file, err := parser.ParseFile(token.NewFileSet(), name, nil, 0)
		if err != nil {
			t.Fatal(err)
		}
		files = append(files, file)
	}
	return files
}

// functions tells those of the package, with their bodies.
func functions(t *testing.T) []*ast.FuncDecl {
	t.Helper()
	var list []*ast.FuncDecl
	for _, file := range code(t) {
		for _, d := range file.Decls {
			if f, is := d.(*ast.FuncDecl); is {
				list = append(list, f)
			}
		}
	}
	return list
}

// interfaces tells, for each interface of the package, the names of its methods.
func interfaces(t *testing.T) map[string][]string {
	t.Helper()
	all := map[string][]string{}
	for _, file := range code(t) {
		ast.Inspect(file, func(n ast.Node) bool {
			if spec, is := n.(*ast.TypeSpec); is {
				if x, is := spec.Type.(*ast.InterfaceType); is {
					for _, m := range x.Methods.List {
						all[spec.Name.Name] = append(all[spec.Name.Name], m.Names[0].Name)
					}
				}
			}
			return true
		})
	}
	return all
}

// callsThrough says whether a function calls a method of an interface by one of its parameters.
func callsThrough(f *ast.FuncDecl, all map[string][]string) bool {
	through := false
	for _, param := range f.Type.Params.List {
		methods := all[types.ExprString(param.Type)]
		for _, name := range param.Names {
			ast.Inspect(f.Body, func(n ast.Node) bool {
				if call, is := n.(*ast.CallExpr); is {
					if x, is := call.Fun.(*ast.SelectorExpr); is && types.ExprString(x.X) == name.Name && slices.Contains(methods, x.Sel.Name) {
						through = true
					}
				}
				return true
			})
		}
	}
	return through
}

// Ways: wherever a count becomes less what waits for that is called, through an interface; more than one thing may wait.
func TestToldThroughInterface(t *testing.T) {
	all := interfaces(t)
	falls := 0
	waits := map[string]int{}
	for _, f := range functions(t) {
		ast.Inspect(f, func(n ast.Node) bool {
			if x, is := n.(*ast.IncDecStmt); is && x.Tok == token.DEC && strings.HasSuffix(types.ExprString(x.X), ".count") {
				falls++
				if !callsThrough(f, all) {
					t.Errorf("%s: a count becomes less, and nothing that waits is called through an interface", f.Name.Name)
				}
			}
			return true
		})
		if f.Recv != nil {
			waits[f.Name.Name]++
		}
	}
	if falls == 0 {
		t.Error("no count becomes less")
	}
	for name, methods := range all {
		for _, m := range methods {
			if waits[m] < 2 {
				t.Errorf("%s: %d types have the method %s", name, waits[m], m)
			}
		}
	}
}

// LANGUAGE.md, rule 8: of objects that went a store keeps nothing but how many were ever made.
func TestNothingKept(t *testing.T) {
	s, _ := begin(t, example())
	for range 50 {
		ring := makesMany(t, s, 3, 1, 0)
		chains(t, s, append(ring, ring[0])...)
		drops(t, s, append(ring, makes(t, s, 0, 0))...)
		s.Collect()
		is := reflect.ValueOf(s).Elem()
		for i := range is.NumField() {
			switch f := is.Field(i); f.Kind() {
			case reflect.Map, reflect.Slice:
				if f.Len() != 0 {
					t.Fatalf("%s has %d entries", is.Type().Field(i).Name, f.Len())
				}
			}
		}
	}
}

// DOC.md's map: the layer calls malloc, beside api.
func TestImports(t *testing.T) {
	may := []string{`"croft/api"`, `"croft/malloc"`, `"cmp"`, `"iter"`, `"maps"`, `"math"`, `"slices"`}
	for _, file := range code(t) {
		for _, part := range file.Imports {
			if !slices.Contains(may, part.Path.Value) {
				t.Errorf("it imports %s", part.Path.Value)
			}
		}
	}
}
