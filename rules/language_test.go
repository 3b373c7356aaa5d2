// Package rules_test holds all packages of the project against what holds
// everywhere: the language that they are written in, and the errors' numbers.
package rules_test

import (
	"bytes"
	"go/ast"
	"go/format"
	"go/parser"
	"go/token"
	"os"
	"path/filepath"
	"slices"
	"strconv"
	"strings"
	"testing"
)

// root is the project's folder, from this one, and module what its packages'
// paths begin with.
const (
	root   = ".."
	module = "shuttlecock/"
)

// mostLines is how long a function may be.
const mostLines = 60

// allowed are the library's packages, and what may be named of those of
// which not all may be.
var allowed = map[string][]string{
	"bytes": nil, "cmp": nil, "container/heap": nil, "errors": nil, "iter": {"Seq", "Seq2"}, "maps": nil, "math": nil, "math/bits": nil,
	"slices": nil, "sort": nil, "strconv": nil, "strings": nil, "sync": {"Mutex", "RWMutex", "WaitGroup", "Once"}, "sync/atomic": nil,
	"unicode": nil, "unicode/utf8": nil,
}

// source is a Go file of the program.
type source struct {
	path string
	text []byte
	fset *token.FileSet
	file *ast.File
}

// sources are the Go files, but for tests, of the layers, of what their tests
// share, and of all packages of the project that these import: whatever else is
// laid beside them is not the program's.
func sources(t *testing.T) []source {
	t.Helper()
	var all []source
	folders := strings.Fields("api wire strtab ast lex parse print check cause sem diag flow run bdf grid lower extract inter bench sketch")
	for i := 0; i < len(folders); i++ {
		for _, s := range folder(t, folders[i]) {
			all = append(all, s)
			for _, x := range s.file.Imports {
				path, _ := strconv.Unquote(x.Path.Value)
				if name, is := strings.CutPrefix(path, module); is && !slices.Contains(folders, name) {
					folders = append(folders, name)
				}
			}
		}
	}
	return all
}

// folder are the sources of a package.
func folder(t *testing.T, name string) []source {
	t.Helper()
	files, err := os.ReadDir(filepath.Join(root, name))
	if err != nil {
		t.Fatal(err)
	}
	var all []source
	for _, f := range files {
		path := filepath.Join(root, name, f.Name())
		if f.IsDir() || strings.HasSuffix(path, "_test.go") {
			continue
		}
		if filepath.Ext(path) != ".go" {
			t.Errorf("%s: beside the Go files", path)
			continue
		}
		s := source{path: path, fset: token.NewFileSet()}
		if s.text, err = os.ReadFile(path); err != nil {
			t.Fatal(err)
		}
		if s.file, err = parser.ParseFile(s.fset, path, s.text, parser.ParseComments); err != nil {
			t.Fatal(err)
		}
		all = append(all, s)
	}
	return all
}

// wrong tells of a fault in a source.
func (s source) wrong(t *testing.T, n ast.Node, what string) {
	t.Helper()
	t.Errorf("%s: %s", s.fset.Position(n.Pos()), what)
}

func TestImports(t *testing.T) {
	for _, s := range sources(t) {
		some := map[string][]string{}
		for _, i := range s.file.Imports {
			path, _ := strconv.Unquote(i.Path.Value)
			names, is := allowed[path]
			if !is && !strings.HasPrefix(path, module) || i.Name != nil {
				s.wrong(t, i, "the import "+path)
			}
			if names != nil {
				some[path] = names
			}
		}
		ast.Inspect(s.file, func(n ast.Node) bool {
			if x, is := n.(*ast.SelectorExpr); is {
				if of, is := x.X.(*ast.Ident); is && some[of.Name] != nil && !slices.Contains(some[of.Name], x.Sel.Name) {
					s.wrong(t, x, of.Name+"."+x.Sel.Name)
				}
			}
			return true
		})
	}
}

func TestRemarks(t *testing.T) {
	for _, s := range sources(t) {
		for _, g := range s.file.Comments {
			for _, c := range g.List {
				if strings.HasPrefix(c.Text, "//go:") || strings.HasPrefix(c.Text, "// +build") || strings.HasPrefix(c.Text, "//export") {
					s.wrong(t, c, c.Text)
				}
			}
		}
	}
}

func TestLayout(t *testing.T) {
	for _, s := range sources(t) {
		if want, err := format.Source(s.text); err != nil || !bytes.Equal(want, s.text) {
			t.Errorf("%s: not gofmt's layout", s.path)
		}
		for _, d := range s.file.Decls {
			f, is := d.(*ast.FuncDecl)
			if !is {
				continue
			}
			if n := s.fset.Position(f.End()).Line - s.fset.Position(f.Pos()).Line + 1; n > mostLines {
				s.wrong(t, f, f.Name.Name+" has "+strconv.Itoa(n)+" lines")
			}
		}
	}
}

func TestPackageLevel(t *testing.T) {
	for _, s := range sources(t) {
		for _, d := range s.file.Decls {
			switch x := d.(type) {
			case *ast.FuncDecl:
				if x.Recv == nil && x.Name.Name == "init" {
					s.wrong(t, x, "init")
				}
			case *ast.GenDecl:
				if x.Tok == token.VAR {
					s.variables(t, x)
				}
			}
		}
	}
}

// variables holds a declaration of variables of a package against the rules.
func (s source) variables(t *testing.T, d *ast.GenDecl) {
	t.Helper()
	for _, spec := range d.Specs {
		v := spec.(*ast.ValueSpec)
		if len(v.Values) != len(v.Names) {
			s.wrong(t, v, v.Names[0].Name+" has no value of its own")
		}
		ast.Inspect(v, func(n ast.Node) bool {
			switch x := n.(type) {
			case *ast.CallExpr:
				if of, is := x.Fun.(*ast.SelectorExpr); !is || of.Sel.Name != "New" {
					s.wrong(t, x, v.Names[0].Name+" is made by a call")
				}
			case *ast.MapType, *ast.FuncType, *ast.ChanType, *ast.StarExpr:
				s.wrong(t, x, v.Names[0].Name+" is no table of plain values")
			case *ast.BasicLit:
				if x.Kind == token.FLOAT || x.Kind == token.IMAG {
					s.wrong(t, x, v.Names[0].Name+" is a float")
				}
			}
			return true
		})
		if len(v.Values) == 1 {
			if text, is := v.Values[0].(*ast.BasicLit); is && text.Kind == token.STRING {
				s.wrong(t, v, v.Names[0].Name+" is a text, and no constant")
			}
		}
	}
}

func TestNothingIsPrinted(t *testing.T) {
	for _, s := range sources(t) {
		ast.Inspect(s.file, func(n ast.Node) bool {
			if c, is := n.(*ast.CallExpr); is {
				if f, is := c.Fun.(*ast.Ident); is && (f.Name == "print" || f.Name == "println") {
					s.wrong(t, c, f.Name)
				}
			}
			return true
		})
	}
}
