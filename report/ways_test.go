package report_test

import (
	"go/ast"
	"go/importer"
	"go/parser"
	"go/token"
	"go/types"
	"path/filepath"
	"slices"
	"testing"
)

// code parses the package's own files.
func code(t *testing.T) (*token.FileSet, []*ast.File) {
	t.Helper()
	names, _ := filepath.Glob("*.go")
	set := token.NewFileSet()
	var files []*ast.File
	for _, name := range names {
		if is, _ := filepath.Match("*_test.go", name); is {
			continue
		}
		file, err := parser.ParseFile(set, name, nil, 0)
		if err != nil {
			t.Fatal(err)
		}
		files = append(files, file)
	}
	return set, files
}

// function is what a test asks of one.
type function struct {
	generic, rangesOverMap bool
	calls                  []string
}

// functions tells the package's own by their names.
func functions(t *testing.T) map[string]*function {
	t.Helper()
	set, files := code(t)
	info := &types.Info{Types: map[ast.Expr]types.TypeAndValue{}}
	check := types.Config{Importer: importer.ForCompiler(set, "source", nil)}
	if _, err := check.Check("croft/report", set, files, info); err != nil {
		t.Fatal(err)
	}
	all := map[string]*function{}
	for _, file := range files {
		for _, part := range file.Decls {
			if f, is := part.(*ast.FuncDecl); is {
				all[f.Name.Name] = functionOf(f, info)
			}
		}
	}
	return all
}

func functionOf(f *ast.FuncDecl, info *types.Info) *function {
	is := &function{generic: f.Type.TypeParams != nil}
	ast.Inspect(f, func(n ast.Node) bool {
		switch x := n.(type) {
		case *ast.RangeStmt:
			_, over := info.Types[x.X].Type.Underlying().(*types.Map)
			is.rangesOverMap = is.rangesOverMap || over
		case *ast.CallExpr:
			is.calls = append(is.calls, types.ExprString(x.Fun))
		}
		return true
	})
	return is
}

// reached tells the functions that one calls, by itself and by others.
func reached(all map[string]*function, name string, seen map[string]bool) {
	if all[name] == nil || seen[name] {
		return
	}
	seen[name] = true
	for _, other := range all[name].calls {
		reached(all, other, seen)
	}
}

// Ways: counts stand in maps: each call that counts does so by one generic function, and goes through a map somewhere; Sizes and Diff tell keys sorted, by one generic function.
func TestCounts(t *testing.T) {
	all := functions(t)
	for _, name := range []string{"tally", "sorted"} {
		if all[name] == nil || !all[name].generic {
			t.Fatalf("%s is no generic function", name)
		}
	}
	for face, want := range map[string][]string{"Sizes": {"tally", "sorted"}, "Free": {"tally"}, "Waste": {"tally"}, "Diff": {"tally", "sorted"}} {
		seen, over := map[string]bool{}, false
		reached(all, face, seen)
		for name := range seen {
			over = over || all[name].rangesOverMap
		}
		for _, name := range want {
			if !seen[name] {
				t.Errorf("%s does not reach %s", face, name)
			}
		}
		if face != "Free" && !over {
			t.Errorf("%s goes through no map", face)
		}
	}
}

// DOC.md's map, and LANGUAGE.md's rule 1: the layer calls walk, and bits, beside api.
func TestImports(t *testing.T) {
	may := []string{`"croft/api"`, `"croft/bits"`, `"croft/walk"`, `"cmp"`, `"slices"`, `"strconv"`}
	_, files := code(t)
	for _, file := range files {
		for _, part := range file.Imports {
			if !slices.Contains(may, part.Path.Value) {
				t.Errorf("it imports %s", part.Path.Value)
			}
		}
	}
}

// LANGUAGE.md, rule 8: nothing is kept from call to call: no variable stands at package level.
func TestNothingKept(t *testing.T) {
	_, files := code(t)
	for _, file := range files {
		for _, part := range file.Decls {
			if d, is := part.(*ast.GenDecl); is && d.Tok == token.VAR {
				t.Errorf("a variable of the package, in %s", file.Name.Name)
			}
		}
	}
}
