package post_test

import (
	"go/ast"
	"go/parser"
	"go/token"
	"path/filepath"
	"strings"
	"testing"
)

// penMethods is the methods of the pen by their names, and with each the name that it has for the pen.
func penMethods(t *testing.T) (methods map[string]*ast.FuncDecl, pens map[string]string) {
	t.Helper()
	files, err := filepath.Glob("*.go")
	if err != nil {
		t.Fatal(err)
	}
	methods, pens = map[string]*ast.FuncDecl{}, map[string]string{}
	for _, file := range files {
		if strings.HasSuffix(file, "_test.go") {
			continue
		}
		parsed, err := parser.ParseFile(token.NewFileSet(), file, nil, 0)
		if err != nil {
			t.Fatal(err)
		}
		for _, d := range parsed.Decls {
			f, ok := d.(*ast.FuncDecl)
			if !ok || f.Recv == nil || len(f.Recv.List[0].Names) == 0 {
				continue
			}
			methods[f.Name.Name], pens[f.Name.Name] = f, f.Recv.List[0].Names[0].Name
		}
	}
	return methods, pens
}

// partOf is the name of the part of the pen that is chosen there, if it is one.
func partOf(e ast.Expr, pen string) (string, bool) {
	s, ok := e.(*ast.SelectorExpr)
	if !ok {
		return "", false
	}
	x, ok := s.X.(*ast.Ident)
	return s.Sel.Name, ok && x.Name == pen
}

// changes says whether a method sets a part of the pen, or calls a method that is known to change it.
func changes(f *ast.FuncDecl, pen string, known map[string]bool) bool {
	found := false
	ast.Inspect(f, func(n ast.Node) bool {
		var set []ast.Expr
		switch x := n.(type) {
		case *ast.AssignStmt:
			set = x.Lhs
		case *ast.IncDecStmt:
			set = []ast.Expr{x.X}
		case *ast.CallExpr:
			called, ok := partOf(x.Fun, pen)
			found = found || ok && known[called]
		}
		for _, e := range set {
			_, ok := partOf(e, pen)
			found = found || ok
		}
		return true
	})
	return found
}

// P12.1: the column that is answered is the one behind the byte, in whatever order operands are taken. One compiler's answers can't tell that, so the text must: what changes the pen answers nothing, and so can't stand in one statement beside what reads it.
func TestWhatChangesThePenAnswersNothing(t *testing.T) {
	methods, pens := penMethods(t)
	known := map[string]bool{}
	for range methods { // as often as there are methods is often enough for the longest chain of calls
		for name, f := range methods {
			if !known[name] && changes(f, pens[name], known) {
				known[name] = true
			}
		}
	}
	if !known["write"] {
		t.Error("a pen that writes isn't changed: the test looks past it")
	}
	for name := range known {
		if methods[name].Type.Results != nil {
			t.Errorf("%s changes the pen, and answers something", name)
		}
	}
}
