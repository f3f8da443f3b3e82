package shell_test

import (
	"go/ast"
	"go/importer"
	"go/parser"
	"go/token"
	"go/types"
	"path/filepath"
	"slices"
	"strings"
	"testing"
)

// code is the package's own, as it is parsed and checked.
type code struct {
	files     []*ast.File
	info      *types.Info
	functions map[string]*ast.FuncDecl
}

func parsed(t *testing.T) code {
	t.Helper()
	names, _ := filepath.Glob("*.go")
	set := token.NewFileSet()
	c := code{functions: map[string]*ast.FuncDecl{}, info: &types.Info{Types: map[ast.Expr]types.TypeAndValue{}, Selections: map[*ast.SelectorExpr]*types.Selection{}}}
	for _, name := range names {
		if strings.HasSuffix(name, "_test.go") {
			continue
		}
		file, err := parser.ParseFile(set, name, nil, 0)
		if err != nil {
			t.Fatal(err)
		}
		c.files = append(c.files, file)
		for _, part := range file.Decls {
			if f, is := part.(*ast.FuncDecl); is {
				c.functions[f.Name.Name] = f
			}
		}
	}
	check := types.Config{Importer: importer.ForCompiler(set, "source", nil)}
	if _, err := check.Check("croft/shell", set, c.files, c.info); err != nil {
		t.Fatal(err)
	}
	return c
}

// reached gives all that stands in the functions that Run reaches, by calls or by naming them.
func (c code) reached(look func(ast.Node)) {
	seen := map[string]bool{}
	var visit func(name string)
	visit = func(name string) {
		if c.functions[name] == nil || seen[name] {
			return
		}
		seen[name] = true
		ast.Inspect(c.functions[name], func(n ast.Node) bool {
			look(n)
			if id, is := n.(*ast.Ident); is {
				visit(id.Name)
			}
			return true
		})
	}
	visit("Run")
}

// Ways: commands are method expressions, one for each line of P21.5's table.
func TestMethodExpressions(t *testing.T) {
	c, met := parsed(t), map[string]bool{}
	c.reached(func(n ast.Node) {
		if x, is := n.(*ast.SelectorExpr); is && c.info.Selections[x] != nil && c.info.Selections[x].Kind() == types.MethodExpr {
			met[x.Sel.Name] = true
		}
	})
	if len(met) < 39 {
		t.Errorf("%d method expressions", len(met))
	}
}

// calls tells how often Run reaches a call.
func (c code) calls(name string, holds func(*ast.CallExpr) bool) int {
	count := 0
	c.reached(func(n ast.Node) {
		if call, is := n.(*ast.CallExpr); is && types.ExprString(call.Fun) == name && holds(call) {
			count++
		}
	})
	return count
}

// Ways: what goes wrong in a line is an error value, asked by errors.As for an Errno.
func TestErrorsAs(t *testing.T) {
	c := parsed(t)
	if c.calls("errors.As", func(call *ast.CallExpr) bool {
		return c.info.Types[call.Args[1]].Type.String() == "*croft/api.Errno"
	}) == 0 {
		t.Error("no errors.As for an Errno")
	}
}

// Ways: names stand in a map that is cleared, and told sorted.
func TestNamesMap(t *testing.T) {
	c := parsed(t)
	isMap := func(x ast.Expr) bool {
		m, is := c.info.Types[x].Type.Underlying().(*types.Map)
		return is && m.Key().String() == "string"
	}
	if c.calls("clear", func(call *ast.CallExpr) bool { return isMap(call.Args[0]) }) < 2 {
		t.Error("no map of names is cleared by heap and by clear")
	}
	sorted := func(call *ast.CallExpr) bool { return true }
	if c.calls("slices.Sorted", sorted)+c.calls("slices.Sort", sorted)+c.calls("sort.Strings", sorted) == 0 {
		t.Error("names are not sorted")
	}
}

// P21.4, P21.5: no text has lines enough for one answer more than MaxCalls, and none has objects that are due, as no line asks for that. The code must ask for both all the same.
func TestOutOfReach(t *testing.T) {
	c, met := parsed(t), map[string]bool{}
	c.reached(func(n ast.Node) {
		if x, is := n.(*ast.SelectorExpr); is {
			met[x.Sel.Name] = true
		}
	})
	for _, name := range []string{"MaxCalls", "Due"} {
		if !met[name] {
			t.Errorf("nothing asks for %s", name)
		}
	}
}

// DOC.md's map: the layer calls all others, as far as the lines name them; LANGUAGE.md's rule 1.
func TestImports(t *testing.T) {
	may := []string{"croft/api", "croft/malloc", "croft/walk", "croft/image", "croft/oracle", "croft/script", "croft/arena", "croft/vault", "croft/trace", "croft/dict", "croft/report", "errors", "maps", "math", "slices", "strconv", "strings"}
	for _, file := range parsed(t).files {
		for _, part := range file.Imports {
			if !slices.Contains(may, strings.Trim(part.Path.Value, `"`)) {
				t.Errorf("it imports %s", part.Path.Value)
			}
		}
	}
}

// LANGUAGE.md, rules 3b and 8: nothing is kept from run to run: no variable stands at package level.
func TestNothingKept(t *testing.T) {
	for _, file := range parsed(t).files {
		for _, part := range file.Decls {
			if d, is := part.(*ast.GenDecl); is && d.Tok == token.VAR {
				t.Error("a variable of the package")
			}
		}
	}
}
