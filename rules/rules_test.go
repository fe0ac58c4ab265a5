// Package rules holds the program's files against the rules of its language (shared/LANGUAGE.md) and against the map of its layers (shared/DOC.md).
package rules

import (
	"bytes"
	"go/ast"
	"go/format"
	"go/parser"
	"go/token"
	"os"
	"path/filepath"
	"slices"
	"strconv"
	"strings"
	"testing"
)

const root = ".."

// standsOn is which layers each layer may import; all stand on api.
var standsOn = map[string]string{
	"api":      "",
	"bits":     "api",
	"crc":      "api",
	"addr":     "api",
	"ether":    "api addr bits crc",
	"ipv4":     "api addr bits",
	"udp":      "api addr bits",
	"icmp":     "api addr bits ipv4",
	"frag":     "api ether ipv4",
	"reasm":    "api addr frag ipv4",
	"config":   "api",
	"image":    "api bits config crc",
	"bag":      "api",
	"subvl":    "api",
	"mux":      "api",
	"endtx":    "api addr bag config ether frag ipv4 mux subvl udp",
	"integ":    "api endtx",
	"redund":   "api integ",
	"police":   "api bag",
	"queue":    "api mux",
	"avswitch": "api config ether police queue",
	"endrx":    "api addr config ether integ ipv4 reasm redund udp",
	"ports":    "api config",
	"kernel":   "api config endrx endtx ports",
	"net":      "api avswitch config endtx kernel",
}

// library is the packages of the library that the program may import.
const library = " bytes cmp container/heap errors iter maps math math/bits slices sort strconv strings sync sync/atomic unicode unicode/utf8 "

// syncNames is what the program may take of package sync.
const syncNames = " Mutex RWMutex WaitGroup Once "

// longest is how many lines a function has at most.
const longest = 60

type source struct {
	path string // from the root on
	pack string // its folder
	text []byte
	fset *token.FileSet
	file *ast.File
}

// laidBeside tells whether a folder has a name that is kept for what is laid beside the program to test it.
func laidBeside(pack string) bool {
	return pack == "sharedtests" || pack == "form" || pack == "try" || strings.HasPrefix(pack, "pitot")
}

// program is the program's own files, without tests.
func program(t *testing.T) []source {
	t.Helper()
	var l []source
	paths, err := filepath.Glob(filepath.Join(root, "*", "*.go"))
	if err != nil {
		t.Fatal(err)
	}
	for _, path := range paths {
		pack := filepath.Base(filepath.Dir(path))
		if strings.HasSuffix(path, "_test.go") || laidBeside(pack) {
			continue
		}
		text, err := os.ReadFile(path)
		if err != nil {
			t.Fatal(err)
		}
		fset := token.NewFileSet()
		file, err := parser.ParseFile(fset, path, text, parser.ParseComments)
		if err != nil {
			t.Fatal(err)
		}
		l = append(l, source{path: path, pack: pack, text: text, fset: fset, file: file})
	}
	return l
}

// DOC.md, the map: each layer is there, and imports only those that it stands on, or a package that is no layer.
func TestLayers(t *testing.T) {
	there := map[string]bool{}
	for _, s := range program(t) {
		there[s.pack] = true
		on, layer := standsOn[s.pack]
		for _, i := range s.file.Imports {
			path, _ := strconv.Unquote(i.Path.Value)
			name, own := strings.CutPrefix(path, "pitot/")
			if _, other := standsOn[name]; own && layer && other && !slices.Contains(strings.Fields(on), name) {
				t.Errorf("%s imports %s, on which it does not stand", s.path, name)
			}
		}
	}
	for name := range standsOn {
		if !there[name] {
			t.Errorf("no package %s", name)
		}
	}
}

// LANGUAGE.md 1 and 2: what is imported, and what of it is taken.
func TestImports(t *testing.T) {
	for _, s := range program(t) {
		for _, i := range s.file.Imports {
			path, _ := strconv.Unquote(i.Path.Value)
			if !strings.HasPrefix(path, "pitot/") && !strings.Contains(library, " "+path+" ") {
				t.Errorf("%s imports %s", s.path, path)
			}
		}
		ast.Inspect(s.file, func(n ast.Node) bool {
			x, ok := n.(*ast.SelectorExpr)
			if !ok {
				return true
			}
			from, ok := x.X.(*ast.Ident)
			if ok && from.Name == "iter" && strings.HasPrefix(x.Sel.Name, "Pull") {
				t.Errorf("%s takes iter.%s", s.path, x.Sel.Name)
			}
			if ok && from.Name == "sync" && !strings.Contains(syncNames, " "+x.Sel.Name+" ") {
				t.Errorf("%s takes sync.%s", s.path, x.Sel.Name)
			}
			return true
		})
	}
}

// LANGUAGE.md 2: no lines for the compiler, and no other files beside the Go files.
func TestPlainFiles(t *testing.T) {
	folders := map[string]bool{}
	for _, s := range program(t) {
		folders[filepath.Dir(s.path)] = true
		for _, g := range s.file.Comments {
			for _, c := range g.List {
				if strings.HasPrefix(c.Text, "//go:") || strings.HasPrefix(c.Text, "// +build") {
					t.Errorf("%s: %s", s.path, c.Text)
				}
			}
		}
	}
	for folder := range folders {
		l, err := os.ReadDir(folder)
		if err != nil {
			t.Fatal(err)
		}
		for _, f := range l {
			if !strings.HasSuffix(f.Name(), ".go") {
				t.Errorf("%s is no Go file", filepath.Join(folder, f.Name()))
			}
		}
	}
}

// LANGUAGE.md 9: gofmt's layout, and functions that are not too long.
func TestLayout(t *testing.T) {
	for _, s := range program(t) {
		if laid, err := format.Source(s.text); err != nil || !bytes.Equal(laid, s.text) {
			t.Errorf("%s is not as gofmt lays it out", s.path)
		}
		for _, d := range s.file.Decls {
			f, ok := d.(*ast.FuncDecl)
			if !ok {
				continue
			}
			lines := s.fset.Position(f.End()).Line - s.fset.Position(f.Pos()).Line + 1
			if lines > longest {
				t.Errorf("%s: %s has %d lines", s.path, f.Name.Name, lines)
			}
		}
	}
}

// LANGUAGE.md 3a and 3b: variables of a package have values of their own, which no call makes but errors.New, and which are no maps and no functions.
func TestVariables(t *testing.T) {
	for _, s := range program(t) {
		for _, d := range s.file.Decls {
			g, ok := d.(*ast.GenDecl)
			if !ok || g.Tok != token.VAR {
				continue
			}
			for _, spec := range g.Specs {
				v := spec.(*ast.ValueSpec)
				if len(v.Values) != len(v.Names) {
					t.Errorf("%s: %s has no value of its own", s.path, v.Names[0].Name)
				}
				for i, value := range v.Values {
					if !mayStand(value) {
						t.Errorf("%s: %s may not stand at package level", s.path, v.Names[i].Name)
					}
				}
			}
		}
	}
}

func mayStand(value ast.Expr) bool {
	may := true
	ast.Inspect(value, func(n ast.Node) bool {
		switch x := n.(type) {
		case *ast.FuncLit, *ast.MapType:
			may = false
		case *ast.CallExpr:
			f, ok := x.Fun.(*ast.SelectorExpr)
			if !ok {
				may = false
				break
			}
			from, ok := f.X.(*ast.Ident)
			may = may && ok && from.Name == "errors" && f.Sel.Name == "New"
		}
		return may
	})
	return may
}
