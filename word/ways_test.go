package word_test

import (
	"go/ast"
	"go/importer"
	"go/parser"
	"go/token"
	"go/types"
	"testing"
)

// ranges are the kinds of things that the package's own code goes through by a range, as types.
func ranges(t *testing.T) []types.Type {
	fset := token.NewFileSet()
	file, err := parser.ParseFile(fset, "word.go", nil, 0)
	if err != nil {
		t.Fatal(err)
	}
	info := &types.Info{Types: map[ast.Expr]types.TypeAndValue{}}
	look := types.Config{Importer: importer.ForCompiler(fset, "source", nil)}
	if _, err := look.Check("quittance/word", fset, []*ast.File{file}, info); err != nil {
		t.Fatal(err)
	}
	var l []types.Type
	ast.Inspect(file, func(n ast.Node) bool {
		if loop, ok := n.(*ast.RangeStmt); ok {
			l = append(l, info.TypeOf(loop.X).Underlying())
		}
		return true
	})
	return l
}

// TestWays looks for a range over a function, which cuts lines, and one over a string, which tells digits as runes.
func TestWays(t *testing.T) {
	var function, text bool
	for _, over := range ranges(t) {
		switch x := over.(type) {
		case *types.Signature:
			function = true
		case *types.Basic:
			text = text || x.Info()&types.IsString != 0
		}
	}
	if !function || !text {
		t.Errorf("a range over a function: %v; over a string: %v", function, text)
	}
}
