package block_test

import (
	"go/ast"
	"go/importer"
	"go/parser"
	"go/token"
	"go/types"
	"testing"
)

// isStack says whether a call lengthens a list of structs.
func isStack(info *types.Info, call *ast.CallExpr) bool {
	name, ok := call.Fun.(*ast.Ident)
	if !ok || name.Name != "append" {
		return false
	}
	list, ok := info.TypeOf(call).Underlying().(*types.Slice)
	if !ok {
		return false
	}
	_, ok = list.Elem().Underlying().(*types.Struct)
	return ok
}

// turns says whether a deferred function assigns to what its function answers.
func turns(info *types.Info, f *ast.FuncDecl) bool {
	answers := map[types.Object]bool{}
	if f.Type.Results != nil {
		for _, field := range f.Type.Results.List {
			for _, name := range field.Names {
				answers[info.Defs[name]] = true
			}
		}
	}
	found := false
	ast.Inspect(f, func(n ast.Node) bool {
		deferred, ok := n.(*ast.DeferStmt)
		if !ok {
			return true
		}
		ast.Inspect(deferred, func(n ast.Node) bool {
			if assigned, ok := n.(*ast.AssignStmt); ok {
				for _, left := range assigned.Lhs {
					name, ok := left.(*ast.Ident)
					found = found || ok && answers[info.Uses[name]]
				}
			}
			return true
		})
		return true
	})
	return found
}

// TestWays looks for what the chapter leans on: a stack of structs, a deferred function that turns the blocks, and two ends gone through as an array.
func TestWays(t *testing.T) {
	fset := token.NewFileSet()
	var files []*ast.File
	for _, name := range []string{"block.go", "walk.go"} {
		file, err := parser.ParseFile(fset, name, nil, 0)
		if err != nil {
			t.Fatal(err)
		}
		files = append(files, file)
	}
	info := &types.Info{Types: map[ast.Expr]types.TypeAndValue{}, Defs: map[*ast.Ident]types.Object{}, Uses: map[*ast.Ident]types.Object{}}
	look := types.Config{Importer: importer.ForCompiler(fset, "source", nil)}
	if _, err := look.Check("quittance/block", fset, files, info); err != nil {
		t.Fatal(err)
	}
	var stack, deferred, two bool
	for _, file := range files {
		ast.Inspect(file, func(n ast.Node) bool {
			switch x := n.(type) {
			case *ast.CallExpr:
				stack = stack || isStack(info, x)
			case *ast.FuncDecl:
				deferred = deferred || x.Name.Name == "Blocks" && turns(info, x)
			case *ast.RangeStmt:
				array, ok := info.TypeOf(x.X).Underlying().(*types.Array)
				two = two || ok && array.Len() == 2
			}
			return true
		})
	}
	if !stack || !deferred || !two {
		t.Errorf("a stack of structs: %v; a deferred function that turns the blocks: %v; two ends as an array: %v", stack, deferred, two)
	}
}
