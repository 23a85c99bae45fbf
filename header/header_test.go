package header

import (
	"go/parser"
	"go/token"
	"math/rand"
	"os"
	"path/filepath"
	"reflect"
	"strconv"
	"strings"
	"testing"

	"seiche/api"
	"seiche/golex"
)

// same: whether two headers are, lists without entries and none being one.
func same(a, b api.Header) bool {
	for _, h := range []*api.Header{&a, &b} {
		h.Imports = append([]api.Import{}, h.Imports...)
		h.Embeds = append([]string{}, h.Embeds...)
	}
	return reflect.DeepEqual(a, b)
}

// check checks headers of texts.
func check(t *testing.T, list map[string]api.Header) {
	t.Helper()
	for s, want := range list {
		if got := Parse(s); !same(got, want) {
			t.Errorf("%q:\n got %+v\nwant %+v", s, got, want)
		}
	}
}

// fault is a header with a fault.
func fault(kind, at int) api.Header { return api.Header{Fault: kind, At: at} }

// P12.1: the package clause.
func TestClause(t *testing.T) {
	check(t, map[string]api.Header{
		"package a":                     {Name: "a"},
		"package a;":                    {Name: "a"},
		"\ufeffpackage\n/**/é9\n":       {Name: "é9"},
		"package a;;":                   {Name: "a"},
		"package a; x":                  {Name: "a"},
		"package a; )#":                 {Name: "a"},
		"package main\nimport":          fault(api.FaultImport, 19),
		"package main\nimports":         {Name: "main"},
		"package a_test // x":           {Name: "a_test"},
		"":                              fault(api.FaultPackage, 0),
		"\ufeff":                        fault(api.FaultPackage, 3),
		" \n":                           fault(api.FaultPackage, 2),
		"// x":                          fault(api.FaultPackage, 4),
		"package":                       fault(api.FaultPackage, 7),
		"Package a":                     fault(api.FaultPackage, 0),
		"\"package\" a":                 fault(api.FaultPackage, 0),
		";package a":                    fault(api.FaultPackage, 0),
		"package _":                     fault(api.FaultPackage, 8),
		"package func":                  fault(api.FaultPackage, 8),
		"package return":                fault(api.FaultPackage, 8),
		"package ;":                     fault(api.FaultPackage, 8),
		"package 1":                     fault(api.FaultPackage, 8),
		"package \"a\"":                 fault(api.FaultPackage, 8),
		"package a b":                   fault(api.FaultPackage, 10),
		"package a.b":                   fault(api.FaultPackage, 9),
		"#":                             fault(api.FaultToken, 0),
		"package #":                     fault(api.FaultToken, 8),
		"package a#":                    fault(api.FaultToken, 9),
		"package a;#":                   fault(api.FaultToken, 10),
		"package a\n'":                  fault(api.FaultToken, 10),
		"package a\n/* \xff":            fault(api.FaultToken, 13),
		"package a\n/*":                 fault(api.FaultToken, 10),
		"package a /*\n*/ \x00":         fault(api.FaultToken, 16),
		"x #":                           fault(api.FaultPackage, 0),
		"package a\nvar x = '":          {Name: "a"},
		"package a\nx\nimport \"fmt\"":  {Name: "a"},
		"package a\n\"x\"":              {Name: "a"},
		"/* x */ package a":             {Name: "a"},
		"package a\n//go:build x\n#":    fault(api.FaultToken, 23),
		"//go:build x\n//go:build y\n#": fault(api.FaultToken, 26),
	})
}

// imports is a header of package a that imports.
func imports(list ...api.Import) api.Header { return api.Header{Name: "a", Imports: list} }

// P12.1: the imports.
func TestImports(t *testing.T) {
	check(t, map[string]api.Header{
		"package a; import \"x\"":                                  imports(api.Import{Path: "x", At: 18}),
		"package a\nimport `x/y`\nimport b \"C\"; import . \"d\"":  imports(api.Import{Path: "x/y", At: 17}, api.Import{Name: "b", Path: "C", At: 30}, api.Import{Name: ".", Path: "d", At: 44}),
		"package a; import _ \"x\" // c":                           imports(api.Import{Name: "_", Path: "x", At: 18}),
		"package a; import ()":                                     imports(),
		"package a; import (\n)":                                   imports(),
		"package a; import (\"x\")":                                imports(api.Import{Path: "x", At: 19}),
		"package a; import (\"x\";)":                               imports(api.Import{Path: "x", At: 19}),
		"package a\nimport (\n\tx \"y\"\n\t// c\n\n\t. \"z\"\n)\n": imports(api.Import{Name: "x", Path: "y", At: 20}, api.Import{Name: ".", Path: "z", At: 34}),
		"package a; import (\"x\"; `x`); import (y\"x\")\nfunc":    imports(api.Import{Path: "x", At: 19}, api.Import{Path: "x", At: 24}, api.Import{Name: "y", Path: "x", At: 38}),
		"package a; import \"\xc3\xa9$%&()*+,-.:;<=>?@[]^_{|}~\"":  imports(api.Import{Path: "é$%&()*+,-.:;<=>?@[]^_{|}~", At: 18}),
		"package a; import \"../x//\"":                             imports(api.Import{Path: "../x//", At: 18}),
		"package a; import \"\"":                                   fault(api.FaultImport, 18),
		"package a; import ``":                                     fault(api.FaultImport, 18),
		"package a; import \"a b\"":                                fault(api.FaultImport, 18),
		"package a; import \"a\tb\"":                               fault(api.FaultImport, 18),
		"package a; import \"a\rb\"":                               fault(api.FaultImport, 18),
		"package a; import `a\nb`":                                 fault(api.FaultImport, 18),
		"package a; import \"a\\n\"":                               fault(api.FaultImport, 18),
		"package a; import `a\"`":                                  fault(api.FaultImport, 18),
		"package a; import \"a'\"":                                 fault(api.FaultImport, 18),
		"package a; import \"a`\"":                                 fault(api.FaultImport, 18),
		"package a; import x \"\"":                                 fault(api.FaultImport, 20),
		"package a; import 'x'":                                    fault(api.FaultImport, 18),
		"package a; import x":                                      fault(api.FaultImport, 19),
		"package a; import x y":                                    fault(api.FaultImport, 20),
		"package a; import func \"x\"":                             fault(api.FaultImport, 18),
		"package a; import .. \"x\"":                               fault(api.FaultImport, 19),
		"package a; import \"x\" \"y\"":                            fault(api.FaultImport, 22),
		"package a; import \"x\" )":                                fault(api.FaultImport, 22),
		"package a; import (\"x\" \"y\")":                          fault(api.FaultImport, 23),
		"package a; import (;)":                                    fault(api.FaultImport, 19),
		"package a; import (\"x\";;)":                              fault(api.FaultImport, 23),
		"package a; import (\"x\"":                                 fault(api.FaultImport, 22),
		"package a; import (\"x\",)":                               fault(api.FaultImport, 22),
		"package a; import (\"x\") y":                              fault(api.FaultImport, 24),
		"package a; import ((\"x\"))":                              fault(api.FaultImport, 19),
		"package a; import;":                                       fault(api.FaultImport, 17),
		"package a; import \"x\nimport \"y\"":                      fault(api.FaultToken, 18),
		"package a; import \"x\"; #":                               fault(api.FaultToken, 23),
		"package a; import \"x\" #":                                fault(api.FaultToken, 22),
		"package a; import (#":                                     fault(api.FaultToken, 19),
		"package a; import \"x\"; y #":                             imports(api.Import{Path: "x", At: 18}),
	})
}

// build is a header of package a with a constraint.
func build(s string) api.Header { return api.Header{Name: "a", Build: s} }

// P12.1: the constraint of the newer form.
func TestBuild(t *testing.T) {
	check(t, map[string]api.Header{
		"//go:build a && b\npackage a":                                build("a && b"),
		"\ufeff//go:build a\npackage a":                               build("a"),
		" \t\r//go:build\t a \t\r\npackage a":                         build("a"),
		"//go:build\npackage a":                                       build(" "),
		"//go:build \t\npackage a":                                    build(" "),
		"// c\n/* d\n*/\n//go:build a\n// e\npackage a":               build("a"),
		"//go:build a//b\npackage a":                                  build("a//b"),
		"//go:build\r\npackage a":                                     {Name: "a"},
		"//go:buildx\npackage a":                                      {Name: "a"},
		"// go:build a\npackage a":                                    {Name: "a"},
		"//Go:build a\npackage a":                                     {Name: "a"},
		"/*go:build a*/package a":                                     {Name: "a"},
		"/**///go:build a\npackage a":                                 {Name: "a"},
		"/*\n*/ //go:build a\npackage a":                              {Name: "a"},
		"/*\n//go:build a\n*/package a":                               {Name: "a"},
		"package a //go:build a":                                      {Name: "a"},
		"package a\n//go:build a\n":                                   {Name: "a"},
		"package //go:build a\na":                                     {Name: "a"},
		"package\n//go:build a\na":                                    {Name: "a"},
		"//go:build a\n\n//go:build a\npackage a":                     fault(api.FaultBuild, 14),
		"//go:build\n//go:build\n//go:build\npackage a":               fault(api.FaultBuild, 11),
		"//go:build a\n// +build b\n\npackage a":                      build("a"),
		"// +build b\n\n//go:build\npackage a":                        build(" "),
		"//go:build a\n//go:build b\npackage a\n//go:embed\n":         fault(api.FaultBuild, 13),
		"//go:build a\npackage a\n//go:embed \n":                      fault(api.FaultEmbed, 23),
		"//go:build a\npackage a\nimport 1\n":                         fault(api.FaultImport, 30),
		"//go:build a\npackage a\n//go:build b\n//go:build c\nvar x ": build("a"),
	})
}

// P12.1: the constraint of the elder form.
func TestElder(t *testing.T) {
	check(t, map[string]api.Header{
		"// +build a,b !c\n\npackage a":                         build("+a,b !c"),
		"//+build a\n \t\r\npackage a":                          build("+a"),
		"\ufeff//\t +build\ta \t\r\n\npackage a":                build("+a"),
		"// +build\n\npackage a":                                build("+"),
		"// +build a\n// +build b\n// c\n\n// d\npackage a":     build("+a\n+b"),
		"// +build a\n\n// +build b\npackage a":                 build("+a"),
		"// +build a\n\n// +build b\n\npackage a":               build("+a\n+b"),
		"// +build a\npackage a":                                {Name: "a"},
		"// +build a\n package a\n\n":                           {Name: "a"},
		"// +build a\n/*\n\n*/package a":                        build("+a"),
		"// +build a\n/*\n*/\n/**/\npackage a":                  {Name: "a"},
		"\n// +build a\npackage a":                              {Name: "a"},
		"// +builda\n\npackage a":                               {Name: "a"},
		"// +build\r\n\npackage a":                              {Name: "a"},
		"//\r+build a\n\npackage a":                             {Name: "a"},
		"// x +build a\n\npackage a":                            {Name: "a"},
		"/* +build a */\n\npackage a":                           {Name: "a"},
		"/**/ // +build a\n\npackage a":                         {Name: "a"},
		"package a\n// +build a\n\n":                            {Name: "a"},
		"// +build a\n\n\n\n//\n// +build b\n\t\n//\npackage a": build("+a\n+b"),
	})
}

// embeds is a header of package a with patterns.
func embeds(list ...string) api.Header { return api.Header{Name: "a", Embeds: list} }

// P12.1: what is embedded.
func TestEmbeds(t *testing.T) {
	check(t, map[string]api.Header{
		"package a\n//go:embed x\nvar":                                               embeds("x"),
		"package a\n//go:embed x y\tz \t w\r\nvar":                                   embeds("x", "y", "z", "w"),
		"package a\n \t\r//go:embed x\n//go:embed y x\n":                             embeds("x", "y", "x"),
		"package a\n//go:embed \"a b\" `c\t\"` d\"e \"\"\nvar":                       embeds("a b", "c\t\"", "d\"e", ""),
		"package a\n//go:embed \"a\\\"\nvar":                                         embeds("a\\"),
		"package a\n//go:embed \"a\"\r\n":                                            embeds("a"),
		"package a\n//go:embed x\nimport \"x\"\n//go:embed y\nvar z\n//go:embed w\n": {Name: "a", Imports: []api.Import{{Path: "x", At: 30}}, Embeds: []string{"x", "y"}},
		"package a; import (\n//go:embed x\n)":                                       embeds("x"),
		"package a\n/*\n*/\n//go:embed x\n":                                          embeds("x"),
		"//go:embed x\npackage a":                                                    {Name: "a"},
		"package\n//go:embed x\na":                                                   {Name: "a"},
		"package a //go:embed x":                                                     {Name: "a"},
		"package a; //go:embed x":                                                    {Name: "a"},
		"package a\n/**///go:embed x":                                                {Name: "a"},
		"package a\nx //go:embed x":                                                  {Name: "a"},
		"package a\n//go:embedx\n// go:embed x":                                      {Name: "a"},
		"package a\n//go:embed\r\n":                                                  {Name: "a"},
		"package a\nvar x\n//go:embed \n":                                            {Name: "a"},
		"package a\n//go:embed\n":                                                    fault(api.FaultEmbed, 10),
		"package a\n//go:embed \t\r\n":                                               fault(api.FaultEmbed, 10),
		"package a\n//go:embed x\n//go:embed \"\n//go:embed\n":                       fault(api.FaultEmbed, 23),
		"package a\n//go:embed \"a":                                                  fault(api.FaultEmbed, 10),
		"package a\n//go:embed \"a`":                                                 fault(api.FaultEmbed, 10),
		"package a\n//go:embed \"a\"b":                                               fault(api.FaultEmbed, 10),
		"package a\n//go:embed \"a\"\"b\"":                                           fault(api.FaultEmbed, 10),
		"package a\n//go:embed x `a`\rb":                                             fault(api.FaultEmbed, 10),
		"package a\n//go:embed x\rb":                                                 embeds("x\rb"),
	})
}

// P12.1: with a fault nothing else is told; the lists of two answers are apart.
func TestLists(t *testing.T) {
	s := "package a\nimport \"x\"\n//go:embed y\n"
	one := Parse(s)
	one.Imports[0].Path, one.Embeds[0] = "z", "z"
	if two := Parse(s); two.Imports[0].Path != "x" || two.Embeds[0] != "y" {
		t.Error("two answers share a list")
	}
}

// pieces are what texts are made of by chance.
var pieces = strings.Split("package a\n|package|import|import \"x\"\n|(|)|\"x\"|`y`|z|.|_|;|\n|\n| |//go:build x\n|// +build x\n|//go:embed x\n|//go:embed \"\n|//c\n|/*\n\n*/|#|'|\xff|func|\ufeff|/*|\"", "|")

// text is made of so many pieces at most.
func text(r *rand.Rand, most int) string {
	var b strings.Builder
	for range r.Intn(most + 1) {
		b.WriteString(pieces[r.Intn(len(pieces))])
	}
	return b.String()
}

// P12.2: whatever stands behind the token at which the beginning ends, the header is the same.
func TestBeginningAlone(t *testing.T) {
	r := rand.New(rand.NewSource(1))
	ends := 0
	for range 100000 {
		s := text(r, 4) + "package a\n" + text(r, 4)
		h := Parse(s)
		if h.Fault != api.FaultNone {
			continue
		}
		// The end is the first token that is neither of the clause nor of the imports: cut behind it, all is the same.
		end := -1
		for _, x := range golex.Lex(s) {
			if x.Text != "" && x.Kind != api.Bad && same(Parse(s[:x.At+len(x.Text)]+" "), h) && same(Parse(s[:x.At+len(x.Text)]+" #"), h) {
				end = x.At + len(x.Text)
				break
			}
		}
		if end < 0 {
			continue
		}
		ends++
		for range 3 {
			if other := s[:end] + " " + text(r, 5); !same(Parse(other), h) {
				t.Fatalf("%q and %q: %+v and %+v", s, other, h, Parse(other))
			}
		}
	}
	if ends < 1000 {
		t.Errorf("%d ends", ends)
	}
}

// P12.1: the project's own files, against the language's parser.
func TestFiles(t *testing.T) {
	files, _ := filepath.Glob("../*/*.go")
	if len(files) == 0 {
		t.Fatal("no files")
	}
	for _, f := range files {
		src, err := os.ReadFile(f)
		if err != nil {
			t.Fatal(err)
		}
		set := token.NewFileSet()
		x, err := parser.ParseFile(set, f, src, parser.ImportsOnly)
		if err != nil {
			t.Fatal(err)
		}
		h := Parse(string(src))
		if h.Fault != api.FaultNone || h.Name != x.Name.Name || len(h.Imports) != len(x.Imports) {
			t.Fatalf("%s: %+v", f, h)
		}
		for i, spec := range x.Imports {
			path, _ := strconv.Unquote(spec.Path.Value)
			if h.Imports[i].Path != path || h.Imports[i].At != set.Position(spec.Pos()).Offset {
				t.Errorf("%s: %+v", f, h.Imports[i])
			}
		}
	}
}

// P12.1: any text has a header; the place of a fault lies in the text, and beside it nothing is told.
func TestAnyText(t *testing.T) {
	r := rand.New(rand.NewSource(2))
	for range 100000 {
		s := text(r, 9)
		h := Parse(s)
		if h.Fault == api.FaultNone && (h.Name == "" || h.At != 0) || h.Fault != api.FaultNone && !same(h, fault(h.Fault, h.At)) || h.At < 0 || h.At > len(s) {
			t.Fatalf("%q: %+v", s, h)
		}
	}
}
