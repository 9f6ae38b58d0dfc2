// Package rules holds the program, not its tests, to the small part of Go that it
// is written in: what a look at the syntax can tell.
package rules

import (
	"go/ast"
	"go/parser"
	"go/token"
	"io/fs"
	"path/filepath"
	"strings"
	"testing"
)

const (
	longest = 40  // lines of a function
	most    = 200 // numbers of a table
)

// sources are the program's Go files, by their paths from the module's folder.
func sources(t *testing.T) []string {
	t.Helper()
	var list []string
	e := filepath.WalkDir("..", func(path string, d fs.DirEntry, e error) error {
		if e != nil {
			return e
		}
		if d.IsDir() && path != ".." && (strings.HasPrefix(d.Name(), ".") || d.Name() == "sharedtests") {
			return filepath.SkipDir
		}
		if strings.HasSuffix(path, ".go") && !strings.HasSuffix(path, "_test.go") {
			list = append(list, path)
		}
		return nil
	})
	if e != nil || len(list) < 3 {
		t.Fatalf("%d files found, %v", len(list), e)
	}
	return list
}

func TestLanguage(t *testing.T) {
	for _, path := range sources(t) {
		set := token.NewFileSet()
		file, e := parser.ParseFile(set, path, nil, parser.ParseComments|parser.SkipObjectResolution)
		if e != nil {
			t.Fatal(e)
		}
		for _, f := range faults(set, file) {
			t.Error(f)
		}
	}
}

// The check itself finds what it is there to find.
func TestFaults(t *testing.T) {
	for _, code := range []string{
		`import "fmt"`, `import "sync"`, `var x = 1`, `var x []int`, `var x = []int{1}`, `var x = [1]int{y}`, "var x = [201]int{" + strings.Repeat("1,", most+1) + "}", "//go:noinline\nfunc f() {}",
		`func f() { go f() }`, `func f() { defer f() }`, `func f() { panic("") }`, `func f() { recover() }`, `func f(l []int) int { return cap(l) }`,
		`func f(m map[int]int) {}`, `func f(c chan int) {}`, `func f(x any) {}`, `func f(x interface{}) {}`, `func f() error { return nil }`, `type T interface{ F() }`,
		`func f() { _ = func() {} }`, `func f(g func()) {}`, `func f[T int](x T) {}`, `type T[P int] struct{}`, `func f(x float64) {}`, `func f() int { return int(1.5) }`,
		`func f(l []int) { l[0], l[1] = 1, 2 }`, `func f() { goto x; x: }`, "func f() {" + strings.Repeat("\n", longest+1) + "}",
	} {
		set := token.NewFileSet()
		file, e := parser.ParseFile(set, "x.go", "package x\n"+code, parser.ParseComments|parser.SkipObjectResolution)
		if e != nil {
			t.Fatalf("%q: %v", code, e)
		}
		if len(faults(set, file)) == 0 {
			t.Errorf("no fault is found in %q", code)
		}
	}
}

func faults(set *token.FileSet, file *ast.File) []string {
	var list []string
	note := func(n ast.Node, what string) {
		list = append(list, set.Position(n.Pos()).String()+": "+what)
	}
	for _, i := range file.Imports {
		if p := strings.Trim(i.Path.Value, `"`); p != "strconv" && !strings.HasPrefix(p, "sqlproof/") {
			note(i, "an import of "+p)
		}
	}
	for _, group := range file.Comments {
		for _, c := range group.List {
			if strings.HasPrefix(c.Text, "//go:") {
				note(c, "a line for the compiler")
			}
		}
	}
	for _, d := range file.Decls {
		if f, ok := d.(*ast.FuncDecl); ok && set.Position(f.End()).Line-set.Position(f.Pos()).Line+1 > longest {
			note(f, "a function too long: "+f.Name.Name)
		}
		if g, ok := d.(*ast.GenDecl); ok && g.Tok == token.VAR && !isTable(g) {
			note(g, "a variable of the package that is no table")
		}
	}
	own := ownTypes(file)
	ast.Inspect(file, func(n ast.Node) bool {
		if what := fault(n, own); what != "" {
			note(n, what)
		}
		return true
	})
	return list
}

// ownTypes are the function types that belong to declarations of functions.
func ownTypes(file *ast.File) map[*ast.FuncType]bool {
	own := map[*ast.FuncType]bool{}
	for _, d := range file.Decls {
		if f, ok := d.(*ast.FuncDecl); ok {
			own[f.Type] = true
		}
	}
	return own
}

func isTable(g *ast.GenDecl) bool {
	for _, s := range g.Specs {
		v, ok := s.(*ast.ValueSpec)
		if !ok || len(v.Values) != 1 {
			return false
		}
		c, ok := v.Values[0].(*ast.CompositeLit)
		if !ok {
			return false
		}
		a, ok := c.Type.(*ast.ArrayType)
		if !ok || a.Len == nil || len(c.Elts) > most {
			return false
		}
		for _, x := range c.Elts {
			if _, plain := x.(*ast.BasicLit); !plain {
				return false
			}
		}
	}
	return true
}

func fault(n ast.Node, own map[*ast.FuncType]bool) string {
	switch n := n.(type) {
	case *ast.GoStmt, *ast.ChanType, *ast.SelectStmt, *ast.SendStmt:
		return "a goroutine's means"
	case *ast.DeferStmt:
		return "a defer"
	case *ast.MapType:
		return "a map"
	case *ast.InterfaceType, *ast.TypeAssertExpr, *ast.TypeSwitchStmt:
		return "an interface"
	case *ast.FuncLit:
		return "a closure"
	case *ast.FuncType:
		if !own[n] {
			return "a function value"
		}
		if n.TypeParams != nil {
			return "a type parameter"
		}
	case *ast.TypeSpec:
		if n.TypeParams != nil {
			return "a type parameter"
		}
	case *ast.BasicLit:
		if n.Kind == token.FLOAT || n.Kind == token.IMAG {
			return "a float"
		}
	case *ast.LabeledStmt:
		return "a label"
	case *ast.AssignStmt:
		return assignFault(n)
	case *ast.Ident:
		return nameFault(n.Name)
	}
	return ""
}

func assignFault(a *ast.AssignStmt) string {
	for _, target := range a.Lhs {
		if _, plain := target.(*ast.Ident); len(a.Lhs) > 1 && !plain {
			return "an assignment to several targets, one of them no plain variable"
		}
	}
	return ""
}

func nameFault(name string) string {
	switch name {
	case "panic", "recover", "cap", "any", "error", "float32", "float64", "complex64", "complex128", "unsafe":
		return "the name " + name
	}
	return ""
}
