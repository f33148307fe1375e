package unite_test

import (
	"go/ast"
	"go/importer"
	"go/parser"
	"go/token"
	"go/types"
	"testing"
)

// TestWays looks for what the chapter leans on: a range over an integer, a labeled loop, and a map that groups are gathered in.
func TestWays(t *testing.T) {
	fset := token.NewFileSet()
	file, err := parser.ParseFile(fset, "unite.go", nil, 0)
	if err != nil {
		t.Fatal(err)
	}
	info := &types.Info{Types: map[ast.Expr]types.TypeAndValue{}}
	look := types.Config{Importer: importer.ForCompiler(fset, "source", nil)}
	if _, err := look.Check("quittance/unite", fset, []*ast.File{file}, info); err != nil {
		t.Fatal(err)
	}
	var integer, label, groups bool
	ast.Inspect(file, func(n ast.Node) bool {
		switch x := n.(type) {
		case *ast.RangeStmt:
			basic, ok := info.TypeOf(x.X).Underlying().(*types.Basic)
			integer = integer || ok && basic.Info()&types.IsInteger != 0
		case *ast.LabeledStmt:
			_, loop := x.Stmt.(*ast.ForStmt)
			label = label || loop
		case *ast.IndexExpr:
			_, is := info.TypeOf(x.X).Underlying().(*types.Map)
			groups = groups || is
		}
		return true
	})
	if !integer || !label || !groups {
		t.Errorf("a range over an integer: %v; a labeled loop: %v; a map: %v", integer, label, groups)
	}
}
