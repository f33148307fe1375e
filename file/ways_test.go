package file_test

import (
	"go/ast"
	"go/importer"
	"go/parser"
	"go/token"
	"go/types"
	"testing"
)

// read is the package's own code, and what is known of its parts.
func read(t *testing.T) ([]*ast.File, *types.Info) {
	fset := token.NewFileSet()
	var files []*ast.File
	for _, name := range []string{"file.go", "bounds.go", "read.go", "print.go"} {
		file, err := parser.ParseFile(fset, name, nil, 0)
		if err != nil {
			t.Fatal(err)
		}
		files = append(files, file)
	}
	info := &types.Info{Types: map[ast.Expr]types.TypeAndValue{}, Defs: map[*ast.Ident]types.Object{}, Uses: map[*ast.Ident]types.Object{}}
	look := types.Config{Importer: importer.ForCompiler(fset, "source", nil)}
	if _, err := look.Check("quittance/file", fset, files, info); err != nil {
		t.Fatal(err)
	}
	return files, info
}

// calls says whether a call is one of a function that the language itself has, of that name.
func calls(info *types.Info, call *ast.CallExpr, name string) bool {
	called, ok := call.Fun.(*ast.Ident)
	if !ok {
		return false
	}
	_, ok = info.Uses[called].(*types.Builtin)
	return ok && called.Name == name
}

// isOwnError says whether an expression is an error of a type of the package.
func isOwnError(info *types.Info, x ast.Expr) bool {
	named, ok := info.TypeOf(x).(*types.Named)
	if !ok || named.Obj().Pkg() == nil || named.Obj().Pkg().Path() != "quittance/file" {
		return false
	}
	wanted := types.Universe.Lookup("error").Type().Underlying().(*types.Interface)
	return types.Implements(named, wanted)
}

// recovers says whether a deferred function of the code recovers, and asserts an error of the package's own.
func recovers(info *types.Info, deferred *ast.DeferStmt) bool {
	recovered, asserted := false, false
	ast.Inspect(deferred, func(n ast.Node) bool {
		switch x := n.(type) {
		case *ast.CallExpr:
			recovered = recovered || calls(info, x, "recover")
		case *ast.TypeAssertExpr:
			asserted = asserted || x.Type != nil && isOwnError(info, x.Type)
		}
		return true
	})
	return recovered && asserted
}

// isTable says whether a type is a map of functions by words.
func isTable(t types.Type) bool {
	table, ok := t.Underlying().(*types.Map)
	if !ok {
		return false
	}
	_, ok = table.Elem().Underlying().(*types.Signature)
	return ok && types.Identical(table.Key(), types.Typ[types.String])
}

// embedsBuilder says whether a struct embeds a strings.Builder.
func embedsBuilder(t types.Type) bool {
	s, ok := t.Underlying().(*types.Struct)
	if !ok {
		return false
	}
	for field := range s.Fields() {
		if field.Embedded() && field.Type().String() == "strings.Builder" {
			return true
		}
	}
	return false
}

// writesWords says whether a function is a method of what embeds a builder, and is handed words as a variadic.
func writesWords(info *types.Info, f *ast.FuncDecl) bool {
	s := info.Defs[f.Name].Type().(*types.Signature)
	if s.Recv() == nil || !s.Variadic() {
		return false
	}
	of, ok := s.Recv().Type().(*types.Pointer)
	last := s.Params().At(s.Params().Len() - 1).Type()
	return ok && embedsBuilder(of.Elem()) && last.String() == "[]string"
}

// TestWays looks for what the chapter leans on: a map of functions, a panic of an error of its own, a deferred function that recovers it by an assertion, and a variadic of words of what embeds a builder.
func TestWays(t *testing.T) {
	files, info := read(t)
	var table, panics, recovered, words bool
	for _, file := range files {
		ast.Inspect(file, func(n ast.Node) bool {
			switch x := n.(type) {
			case *ast.CompositeLit:
				table = table || isTable(info.TypeOf(x))
			case *ast.CallExpr:
				panics = panics || calls(info, x, "panic") && isOwnError(info, x.Args[0])
			case *ast.DeferStmt:
				recovered = recovered || recovers(info, x)
			case *ast.FuncDecl:
				words = words || writesWords(info, x)
			}
			return true
		})
	}
	if !table || !panics || !recovered || !words {
		t.Errorf("a map of functions: %v; a panic of an error of its own: %v, recovered by an assertion: %v; a variadic of words to a builder: %v", table, panics, recovered, words)
	}
}
