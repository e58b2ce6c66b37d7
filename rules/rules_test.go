// Package rules holds the program's text against what shared/LANGUAGE.md asks of it, as far as a look at the text can tell.
package rules

import (
	"bytes"
	"go/ast"
	"go/format"
	"go/parser"
	"go/token"
	"io/fs"
	"os"
	"path/filepath"
	"strconv"
	"strings"
	"testing"
)

const imports = " bytes cmp container/heap errors iter maps math math/bits slices sort strconv strings sync sync/atomic unicode unicode/utf8 "

// What may be used of a package of which not all may.
var parts = map[string]string{"iter": " Seq Seq2 ", "sync": " Mutex RWMutex WaitGroup Once "}

const longest = 60

// source tells the program's Go files, without tests; what lies in a package's folder and is none is a fault.
func source(t *testing.T) []string {
	var l []string
	err := filepath.WalkDir("..", func(path string, d fs.DirEntry, err error) error {
		if err != nil {
			return err
		}
		name := d.Name()
		switch {
		case d.IsDir() && path != ".." && (strings.HasPrefix(name, ".") || name == "sharedtests"):
			return filepath.SkipDir
		case d.IsDir() && path != ".." && (name == "form" || name == "try" || strings.HasPrefix(name, "strainer")):
			t.Errorf("%s: a folder may not be named so", path)
		case d.IsDir() || filepath.Dir(path) == ".." && !strings.HasSuffix(name, ".go"):
		case !strings.HasSuffix(name, ".go"):
			t.Errorf("%s: no Go file", path)
		case !strings.HasSuffix(name, "_test.go"):
			l = append(l, path)
		}
		return nil
	})
	if err != nil {
		t.Fatal(err)
	}
	return l
}

func TestLanguage(t *testing.T) {
	files := source(t)
	if len(files) < 28 {
		t.Errorf("%d Go files: package api and 27 layers are more", len(files))
	}
	for _, path := range files {
		text, err := os.ReadFile(path)
		if err != nil {
			t.Fatal(err)
		}
		if laid, err := format.Source(text); err != nil || !bytes.Equal(laid, text) {
			t.Errorf("%s: not gofmt's layout", path)
		}
		set := token.NewFileSet()
		file, err := parser.ParseFile(set, path, text, parser.ParseComments)
		if err != nil {
			t.Fatal(err)
		}
		look(file, func(n ast.Node, fault string) { t.Errorf("%s: %s", set.Position(n.Pos()), fault) }, set)
	}
}

func look(file *ast.File, tell func(ast.Node, string), set *token.FileSet) {
	for _, s := range file.Imports {
		path, _ := strconv.Unquote(s.Path.Value)
		if !strings.HasPrefix(path, "strainer/") && !strings.Contains(imports, " "+path+" ") {
			tell(s, "import of "+path)
		}
		if s.Name != nil && parts[path] != "" { // its parts are looked for by its own name
			tell(s, "import of "+path+" by another name")
		}
	}
	for _, group := range file.Comments {
		for _, c := range group.List {
			if strings.HasPrefix(c.Text, "//go:") || strings.HasPrefix(c.Text, "// +build") || strings.HasPrefix(c.Text, "//line ") {
				tell(c, c.Text)
			}
		}
	}
	ast.Inspect(file, func(n ast.Node) bool {
		switch x := n.(type) {
		case *ast.FuncDecl:
			if lines := set.Position(x.End()).Line - set.Position(x.Pos()).Line + 1; lines > longest {
				tell(x, strconv.Itoa(lines)+" lines in "+x.Name.Name)
			}
		case *ast.SelectorExpr:
			if p, ok := x.X.(*ast.Ident); ok && parts[p.Name] != "" && !strings.Contains(parts[p.Name], " "+x.Sel.Name+" ") {
				tell(x, p.Name+"."+x.Sel.Name)
			}
		case *ast.CallExpr:
			if f, ok := x.Fun.(*ast.Ident); ok && (f.Name == "print" || f.Name == "println") {
				tell(x, f.Name)
			}
		}
		return true
	})
}
