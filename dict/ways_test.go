package dict_test

import (
	"go/ast"
	"go/importer"
	"go/parser"
	"go/token"
	"go/types"
	"iter"
	"path/filepath"
	"reflect"
	"slices"
	"testing"

	"croft/dict"
)

// code parses the package's own files.
func code(t *testing.T) (*token.FileSet, []*ast.File) {
	t.Helper()
	names, _ := filepath.Glob("*.go")
	set := token.NewFileSet()
	var files []*ast.File
	for _, name := range names {
		if is, _ := filepath.Match("*_test.go", name); is {
			continue
		}
		file, err := parser.ParseFile(set, name, nil, 0)
		if err != nil {
			t.Fatal(err)
		}
		files = append(files, file)
	}
	return set, files
}

// ranged tells, for each function of the package, over what it ranges: the kinds of the ranges in it.
func ranged(t *testing.T) map[string][]string {
	t.Helper()
	set, files := code(t)
	info := &types.Info{Types: map[ast.Expr]types.TypeAndValue{}}
	check := types.Config{Importer: importer.ForCompiler(set, "source", nil)}
	if _, err := check.Check("croft/dict", set, files, info); err != nil {
		t.Fatal(err)
	}
	all := map[string][]string{}
	for _, file := range files {
		for _, d := range file.Decls {
			f, is := d.(*ast.FuncDecl)
			if !is {
				continue
			}
			ast.Inspect(f, func(n ast.Node) bool {
				if loop, is := n.(*ast.RangeStmt); is {
					kind := "other"
					switch x := info.Types[loop.X].Type.Underlying().(type) {
					case *types.Signature:
						kind = "iterator"
					case *types.Basic:
						kind = "integer"
					case *types.Slice:
						if types.Identical(x.Elem(), types.Typ[types.Uint8]) {
							kind = "bytes"
						}
					}
					all[f.Name.Name] = append(all[f.Name.Name], kind)
				}
				return true
			})
		}
	}
	return all
}

// Ways: a hash is worked out by a range over bytes, a list of the row gone through by a range over an integer, entries are given by an iterator that is ranged over.
func TestRanged(t *testing.T) {
	all := ranged(t)
	for name, kind := range map[string]string{"hash": "bytes", "find": "integer", "entryAt": "integer", "grow": "iterator", "Drop": "iterator"} {
		if !slices.Contains(all[name], kind) {
			t.Errorf("%s ranges over %v, not over %s", name, all[name], kind)
		}
	}
}

// DOC.md's map: the layer calls malloc, beside api.
func TestImports(t *testing.T) {
	may := []string{`"croft/api"`, `"croft/malloc"`, `"bytes"`, `"iter"`, `"slices"`}
	_, files := code(t)
	for _, file := range files {
		for _, part := range file.Imports {
			if !slices.Contains(may, part.Path.Value) {
				t.Errorf("it imports %s", part.Path.Value)
			}
		}
	}
}

// wantsNoRanges asks that a table knows of no range, and keeps no list or map of anything.
func wantsNoRanges(t *testing.T, x *dict.Table, what string) {
	t.Helper()
	is := reflect.ValueOf(x).Elem()
	for i := range is.NumField() {
		switch f := is.Field(i); f.Kind() {
		case reflect.Map, reflect.Slice:
			if f.Len() != 0 {
				t.Fatalf("%s: %s has %d entries", what, is.Type().Field(i).Name, f.Len())
			}
		}
	}
}

// LANGUAGE.md, rule 8: a table keeps its keys and values in the heap alone, and nothing of a range that has ended, however it did.
func TestNothingKept(t *testing.T) {
	x := letters(t)
	wantsNoRanges(t, x, "five keys")
	all(x)
	wantsNoRanges(t, x, "a range to the end")
	for range x.All() {
		break
	}
	wantsNoRanges(t, x, "a range that was left")
	for range x.All() {
		for range x.All() {
			break
		}
	}
	wantsNoRanges(t, x, "ranges in a range")
	panics(func() {
		for range x.All() {
			panic("enough")
		}
	})
	wantsNoRanges(t, x, "a range that was left by a panic")
	var stops []func()
	for range 4 {
		next, stop := iter.Pull2(x.All())
		next()
		stops = append(stops, stop)
	}
	for _, i := range []int{1, 3, 0, 2} {
		stops[i]()
	}
	wantsNoRanges(t, x, "ranges that were stopped")
	for key := range x.All() {
		deletes(t, x, string(key))
	}
	wantsNoRanges(t, x, "a range that ended by Delete")
	for range x.All() {
		x.Drop()
	}
	wantsNoRanges(t, x, "a range that ended by Drop")
}
