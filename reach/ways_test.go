package reach_test

import (
	"go/ast"
	"go/importer"
	"go/parser"
	"go/token"
	"go/types"
	"testing"
)

// TestWays looks for what the chapter leans on: an interface that is called, method values, and closures.
func TestWays(t *testing.T) {
	fset := token.NewFileSet()
	var files []*ast.File
	for _, name := range []string{"reach.go", "todo.go"} {
		file, err := parser.ParseFile(fset, name, nil, 0)
		if err != nil {
			t.Fatal(err)
		}
		files = append(files, file)
	}
	info := &types.Info{Types: map[ast.Expr]types.TypeAndValue{}, Selections: map[*ast.SelectorExpr]*types.Selection{}}
	look := types.Config{Importer: importer.ForCompiler(fset, "source", nil)}
	if _, err := look.Check("quittance/reach", fset, files, info); err != nil {
		t.Fatal(err)
	}
	called := map[ast.Expr]bool{}
	var through, value, closure bool
	for _, file := range files {
		ast.Inspect(file, func(n ast.Node) bool {
			switch x := n.(type) {
			case *ast.CallExpr:
				called[ast.Unparen(x.Fun)] = true
			case *ast.FuncLit:
				closure = true
			case *ast.SelectorExpr:
				s := info.Selections[x]
				if s != nil && s.Kind() == types.MethodVal {
					through = through || called[x] && types.IsInterface(s.Recv())
					value = value || !called[x]
				}
			}
			return true
		})
	}
	if !through || !value || !closure {
		t.Errorf("a call through an interface: %v; a method value: %v; a closure: %v", through, value, closure)
	}
}
