package adj_test

import (
	"go/ast"
	"go/importer"
	"go/parser"
	"go/token"
	"go/types"
	"testing"
)

// TestWays looks for what the chapter leans on: slices of three indexes, and a range over a function.
func TestWays(t *testing.T) {
	fset := token.NewFileSet()
	file, err := parser.ParseFile(fset, "adj.go", nil, 0)
	if err != nil {
		t.Fatal(err)
	}
	info := &types.Info{Types: map[ast.Expr]types.TypeAndValue{}}
	look := types.Config{Importer: importer.ForCompiler(fset, "source", nil)}
	if _, err := look.Check("quittance/adj", fset, []*ast.File{file}, info); err != nil {
		t.Fatal(err)
	}
	var three, function bool
	ast.Inspect(file, func(n ast.Node) bool {
		switch x := n.(type) {
		case *ast.SliceExpr:
			three = three || x.Slice3
		case *ast.RangeStmt:
			_, is := info.TypeOf(x.X).Underlying().(*types.Signature)
			function = function || is
		}
		return true
	})
	if !three || !function {
		t.Errorf("a slice of three indexes: %v; a range over a function: %v", three, function)
	}
}
