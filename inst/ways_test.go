package inst_test

import (
	"go/ast"
	"go/importer"
	"go/parser"
	"go/token"
	"go/types"
	"testing"
)

// read is the package's own code, and what is known of its parts.
func read(t *testing.T) (*ast.File, *types.Info) {
	fset := token.NewFileSet()
	file, err := parser.ParseFile(fset, "inst.go", nil, 0)
	if err != nil {
		t.Fatal(err)
	}
	info := &types.Info{Types: map[ast.Expr]types.TypeAndValue{}, Instances: map[*ast.Ident]types.Instance{}}
	look := types.Config{Importer: importer.ForCompiler(fset, "source", nil)}
	if _, err := look.Check("quittance/inst", fset, []*ast.File{file}, info); err != nil {
		t.Fatal(err)
	}
	return file, info
}

// TestWays looks for what the chapter leans on: closures, generic functions that are handed functions, and a range over an integer.
func TestWays(t *testing.T) {
	file, info := read(t)
	var closure, generic, integer bool
	ast.Inspect(file, func(n ast.Node) bool {
		switch x := n.(type) {
		case *ast.FuncLit:
			closure = true
		case *ast.CallExpr:
			called, ok := x.Fun.(*ast.Ident)
			if _, is := info.Instances[called]; !ok || !is {
				return true
			}
			for _, handed := range x.Args {
				_, function := info.TypeOf(handed).Underlying().(*types.Signature)
				generic = generic || function
			}
		case *ast.RangeStmt:
			basic, ok := info.TypeOf(x.X).Underlying().(*types.Basic)
			integer = integer || ok && basic.Info()&types.IsInteger != 0
		}
		return true
	})
	if !closure || !generic || !integer {
		t.Errorf("a closure: %v; a generic function that is handed a function: %v; a range over an integer: %v", closure, generic, integer)
	}
}
