package load

import (
	"fmt"
	"math/rand"
	"reflect"
	"slices"
	"strings"
	"testing"

	"seiche/api"
	"seiche/code"
	"seiche/header"
	"seiche/object"
	"seiche/resolve"
	"seiche/tree"
)

// world is a source and a map of files: paths and data, one behind the other.
func world(t *testing.T, list ...string) (*Source, *resolve.Map) {
	t.Helper()
	var files []api.File
	for i := 0; i < len(list); i += 2 {
		files = append(files, api.File{Path: list[i], Data: list[i+1]})
	}
	s := tree.New()
	root, e := s.Build(files...)
	if e != api.OK {
		t.Fatalf("build: error %d", e)
	}
	m, e := resolve.New(s, root)
	if e != api.OK {
		t.Fatalf("map: error %d", e)
	}
	return From(s), m
}

// show is a part as one text.
func show(p api.Part) string {
	out := fmt.Sprintf("%s:%d %s", p.Unit.Dir, p.Unit.Kind, p.Name)
	for _, x := range p.Files {
		out += " " + x.Path
	}
	for _, x := range p.Embeds {
		out += " +" + x.Path
	}
	for _, x := range p.Deps {
		out += fmt.Sprintf(" %s>%d%s", x.Path, x.Place.Kind, x.Place.Dir)
	}
	return out + fmt.Sprintf(" !%d", p.Fault)
}

// check checks the variants of a package on a platform.
func check(t *testing.T, s *Source, m *resolve.Map, c api.Config, dir string, want ...string) {
	t.Helper()
	parts, e := Load(s, m, c, dir)
	var got []string
	for _, p := range parts {
		got = append(got, show(p))
	}
	if e != api.OK || !slices.Equal(got, want) {
		t.Errorf("%s: error %d\n got %s\nwant %s", dir, e, strings.Join(got, "; "), strings.Join(want, "; "))
	}
}

var linux = api.Config{OS: "linux", Arch: "amd64", Level: 21}

// P21.1: the variants of a package, and which files each has.
func TestVariants(t *testing.T) {
	s, m := world(t,
		"a/a.go", "package p", "a/a_test.go", "package p_test",
		"b/b.go", "package p", "b/a_test.go", "package p", "b/c_test.go", "package p_test", "b/z.go", "package p", "b/b.txt", "x", "b/_x.go", "x", "b/sub/s.go", "package s",
		"c/a_test.go", "package p", "d/a_test.go", "package p_test",
		"e/a_windows.go", "package p", "e/b.go", "//go:build windows\npackage p", "e/c.go", "package p\nimport \"C\"",
		"f/a_linux.go", "package l", "f/a_windows.go", "package w", "f/b.go", "package p_test",
	)
	check(t, s, m, linux, "a", "a:1 p a/a.go !0", "a:3 p_test a/a_test.go !0")
	check(t, s, m, linux, "b", "b:1 p b/b.go b/z.go !0", "b:2 p b/a_test.go b/b.go b/z.go !0", "b:3 p_test b/c_test.go !0")
	check(t, s, m, linux, "c", "c:2 p c/a_test.go !0")
	check(t, s, m, linux, "d", "d:3 p_test d/a_test.go !0")
	check(t, s, m, linux, "e")
	check(t, s, m, api.Config{OS: "windows", Cgo: true}, "e", "e:1 p e/a_windows.go e/b.go e/c.go C>3 !0")
	check(t, s, m, linux, "f", "f:1 l f/a_linux.go f/b.go !6")
	check(t, s, m, linux, "")
	check(t, s, m, linux, "none")
	check(t, s, m, linux, "b/sub", "b/sub:1 s b/sub/s.go !0")
}

// P21.1: faults, the first one that is met; files with one tell nothing else.
func TestFaults(t *testing.T) {
	s, m := world(t,
		"a/a.go", "package", "a/b.go", "package p\nimport \"x\"", "a/c.go", "package q", "a/a_test.go", "#",
		"b/a.go", "package p", "b/b.go", "package q\nimport \"x\"\n//go:embed b.go\n", "b/c.go", "#", "b/d_test.go", "package p_test",
		"c/a.go", "package p\n//go:embed none\n", "c/b.go", "package q", "c/c.go", "package p\n//go:embed a.go\n",
		"d/a.go", "#", "d/b.go", "//go:build (\npackage p", "d/c_test.go", "//go:build x y\npackage p_test",
		"e/a.go", "package p\nimport \"x\"\n//go:embed [\n", "f/a.go", "package p\n//go:embed e.txt\n//go:embed none\n", "f/e.txt", "", "g/a.go", "package p\nimport 1", "g/b.go", "package q\n//go:embed \n",
	)
	check(t, s, m, linux, "a", "a:1 p a/a.go a/b.go a/c.go x>2 !2", "a:2 p a/a.go a/a_test.go a/b.go a/c.go x>2 !2")
	check(t, s, m, linux, "b", "b:1 p b/a.go b/b.go b/c.go +b/b.go x>2 !6", "b:3 p_test b/d_test.go !0")
	check(t, s, m, linux, "c", "c:1 p c/a.go c/b.go c/c.go +c/a.go !7")
	check(t, s, m, linux, "d", "d:1  d/a.go d/b.go !1", "d:2  d/a.go d/b.go d/c_test.go !1")
	check(t, s, m, linux, "e", "e:1 p e/a.go x>2 !5")
	check(t, s, m, linux, "f", "f:1 p f/a.go !7")
	check(t, s, m, linux, "g", "g:1  g/a.go g/b.go !3")
}

// P21.1: what is embedded and imported, in order, each once, and where it leads to.
func TestEmbedsAndDeps(t *testing.T) {
	s, m := world(t,
		"go.mod", "module m\nreplace r => ./x", "x/x.go", "package x", "a/e/1", "", "a/e/2", "", "a/e!", "", "a/f", "",
		"a/b.go", "package a\nimport \"m/x\"\nimport \"fmt\"\n//go:embed f\n//go:embed e/2\n",
		"a/a.go", "package a\nimport (\n_ \"m/y\"\nz \"fmt\"\n\"r\"\n\"b.com/c\"\n)\n//go:embed e*\n//go:embed e\n",
		"a/c_test.go", "package a\nimport \"C/x\"\n//go:embed c_test.go\n",
		"a/d_test.go", "package a_test\nimport \"m/a\"\n",
		"vendor/v/v.go", "package v", "a/z_test.go", "package a_test\nimport \"v\"\nimport \"m/a\"",
	)
	lib := " +a/e/1 +a/e/2 +a/e! +a/f"
	check(t, s, m, linux, "a",
		"a:1 a a/a.go a/b.go"+lib+" b.com/c>4 fmt>2 m/x>1x m/y>5 r>1x !0",
		"a:2 a a/a.go a/b.go a/c_test.go +a/c_test.go"+lib+" C/x>2 b.com/c>4 fmt>2 m/x>1x m/y>5 r>1x !0",
		"a:3 a_test a/d_test.go a/z_test.go m/a>1a v>1vendor/v !0")
	parts, _ := Load(s, m, linux, "a")
	for i, x := range parts[0].Embeds {
		if x.Id != object.Blob("") {
			t.Errorf("%d: digest", i)
		}
	}
	if parts[0].Files[1].Id != object.Blob("package a\nimport \"m/x\"\nimport \"fmt\"\n//go:embed f\n//go:embed e/2\n") {
		t.Error("a file's digest")
	}
	parts[0].Files[0].Path, parts[0].Embeds[0].Path, parts[0].Deps[0].Path = "x", "x", "x"
	if parts[1].Files[0].Path == "x" || parts[1].Embeds[0].Path == "x" || parts[1].Deps[0].Path == "x" {
		t.Error("two parts share a list")
	}
}

// P21.1: a source knows what it was told, and what it parsed.
func TestSource(t *testing.T) {
	s, m := world(t, "a/a.go", "package p", "a/b.go", "package p", "a/c_windows.go", "package w", "a/d.txt", "x", "b/a.go", "package p")
	if len(s.Parsed()) != 0 {
		t.Error("parsed too soon")
	}
	check(t, s, m, linux, "a", "a:1 p a/a.go a/b.go !0")
	p, w := object.Blob("package p"), object.Blob("package w")
	if got := s.Parsed(); !slices.Equal(got, []api.Id{p, w}) {
		t.Errorf("%x", got)
	}
	s.Parsed()[0] = api.Id{}
	check(t, s, m, linux, "b", "b:1 p b/a.go !0")
	if got := s.Parsed(); !slices.Equal(got, []api.Id{p, w}) {
		t.Errorf("%x", got)
	}
	told := api.Header{Name: "t", Imports: []api.Import{{Path: "i"}}, Embeds: []string{"e"}}
	s.Tell(w, told)
	s.Tell(api.Id{1}, told)
	told.Imports[0].Path, told.Embeds[0] = "x", "x"
	for range 2 {
		h, e := s.Header(api.Id{1})
		if e != api.OK || h.Name != "t" || h.Imports[0].Path != "i" || h.Embeds[0] != "e" {
			t.Errorf("%+v, %d", h, e)
		}
		h.Imports[0].Path, h.Embeds[0] = "y", "y"
	}
	check(t, s, m, api.Config{OS: "windows"}, "a", "a:1 p a/a.go a/b.go a/c_windows.go i>2 !6")
	if h, e := s.Header(api.Id{2}); e != api.ErrNone || h.Name != "" {
		t.Error("bytes that aren't there")
	}
	id, _ := s.PutBlob("package z\nimport \"q\"")
	for range 2 {
		h, e := s.Header(id)
		if e != api.OK || !reflect.DeepEqual(h, header.Parse("package z\nimport \"q\"")) {
			t.Errorf("%+v, %d", h, e)
		}
		h.Imports[0].Path = "x"
	}
	if data, e := s.Blob(id); e != api.OK || data != "package z\nimport \"q\"" || s.Size() == 0 {
		t.Error("the store's calls")
	}
}

// P21.1: nil things, and bytes that aren't there.
func TestErrors(t *testing.T) {
	var none *Source
	none.Tell(api.Id{}, api.Header{})
	if _, e := none.Header(api.Id{}); e != api.ErrNil || len(none.Parsed()) != 0 {
		t.Error("a nil source")
	}
	if _, e := From(nil).Header(api.Id{}); e != api.ErrNil {
		t.Error("a source of a nil store")
	}
	s, m := world(t, "a.go", "package p")
	for _, dir := range []string{"", "none"} {
		if _, e := Load(nil, m, linux, dir); e != api.ErrNil {
			t.Error("a nil source")
		}
	}
	if _, e := Load(s, nil, linux, ""); e != api.ErrNil {
		t.Error("a nil map")
	}
	if len(Dirs(nil)) != 0 {
		t.Error("a nil map has directories")
	}
	if parts, e := Load(From(tree.New()), m, linux, ""); e != api.ErrNone || len(parts) != 0 {
		t.Errorf("bytes that aren't there: %d", e)
	}
	if _, e := Load(From(nil), m, linux, ""); e != api.ErrNil {
		t.Error("a source of a nil store")
	}
	if parts, e := Load(From(tree.New()), m, linux, "none"); e != api.OK || len(parts) != 0 {
		t.Error("no other file is asked for")
	}
}

// P21.1: directories with files of the language, in order.
func TestDirs(t *testing.T) {
	_, m := world(t, "b.go", "", "a/b/x.go", "", "a/x.go", "", "a/y.go", "", "a!/x.go", "", "c/x.txt", "", "testdata/x.go", "", "d/testdata/e/x.go", "", "_e/x.go", "", "f/.g/x.go", "", "h/_x.go", "", "testdatax/i_test.go", "", "vendor/v/v.go", "", "go.mod", "", "n/go.mod", "", "n/x.go", "")
	if got := Dirs(m); !slices.Equal(got, []string{"", "a", "a/b", "a!", "n", "testdatax", "vendor/v"}) {
		t.Errorf("%q", got)
	}
	_, m = world(t, "a/x.go", "")
	if got := Dirs(m); !slices.Equal(got, []string{"a"}) {
		t.Errorf("%q", got)
	}
}

// id is a digest of one byte over and over.
func id(b byte) (d api.Id) {
	for i := range d {
		d[i] = b
	}
	return d
}

// P21.1: a part's text, and back.
func TestText(t *testing.T) {
	text := func(b byte) string { return strings.Repeat(string([]byte{b}), 32) }
	p := api.Part{Unit: api.Unit{Dir: "d", Kind: 3}, Name: "n", Files: []api.Input{{Path: "f", Id: id(1)}, {Path: "g", Id: id(2)}}, Embeds: []api.Input{{Path: "e", Id: id(3)}}, Deps: []api.Dep{{Path: "i", Place: api.Place{Kind: 1, Dir: "x"}}, {Path: "j"}}, Fault: 7}
	want := code.Join("d", code.Num(3), "n", code.Num(7), code.Join("f", text(1), "g", text(2)), code.Join("e", text(3)), code.Join("i", code.Num(1), "x", "j", code.Num(0), ""))
	if got := Text(p); got != want {
		t.Errorf("%q", got)
	}
	if got := Text(api.Part{}); got != code.Join("", code.Num(0), "", code.Num(0), code.Join(), code.Join(), code.Join()) {
		t.Errorf("%q", got)
	}
	if got, e := Read(want); e != api.OK || !reflect.DeepEqual(got, p) {
		t.Errorf("%+v, %d", got, e)
	}
	none, num, input := code.Join(), code.Num(1), code.Join("f", text(1))
	for _, s := range []string{
		"", "x", none, want + "x", want[:len(want)-1], code.Join("d", num, "n", num, none, none), code.Join("d", num, "n", num, none, none, none, none), code.Join("d", "1", "n", num, none, none, none),
		code.Join("d", num+"x", "n", num, none, none, none), code.Join("d", num, "n", num[1:], none, none, none), code.Join("d", num, "n", num, "", none, none), code.Join("d", num, "n", num, none, "x", none),
		code.Join("d", num, "n", num, none, none, ""), code.Join("d", num, "n", num, code.Join("f"), none, none), code.Join("d", num, "n", num, code.Join("f", "x"), none, none), code.Join("d", num, "n", num, input+"x", none, none),
		code.Join("d", num, "n", num, none, code.Join("f", text(1)+"x"), none), code.Join("d", num, "n", num, none, none, code.Join("i", num)), code.Join("d", num, "n", num, none, none, code.Join("i", "x", "")),
		code.Join("d", num, "n", num, none, none, code.Join("i", num+num, "")), code.Join(strings.Repeat("x", api.MaxText), num, "n", num, none, none, none),
		strings.Repeat(code.Join("d", num, "n", num, none, none, none), 2),
	} {
		if got, e := Read(s); e != api.ErrForm || !reflect.DeepEqual(got, api.Part{}) {
			t.Errorf("%.60q: %+v, %d", s, got, e)
		}
	}
}

// P21.1: two parts that aren't the same have two texts; each is read back.
func TestTexts(t *testing.T) {
	r := rand.New(rand.NewSource(1))
	seen := map[string]api.Part{}
	for range 20000 {
		word := func() string { return []string{"", "a", "b", "ab"}[r.Intn(4)] }
		var p api.Part
		p.Unit, p.Name, p.Fault = api.Unit{Dir: word(), Kind: r.Intn(3) - 1}, word(), r.Intn(2)
		for range r.Intn(2) {
			p.Files = append(p.Files, api.Input{Path: word(), Id: id(byte(r.Intn(2)))})
		}
		for range r.Intn(2) {
			p.Embeds = append(p.Embeds, api.Input{Path: word(), Id: id(byte(r.Intn(2)))})
		}
		for range r.Intn(3) {
			p.Deps = append(p.Deps, api.Dep{Path: word(), Place: api.Place{Kind: r.Intn(2), Dir: word()}})
		}
		s := Text(p)
		if elder, ok := seen[s]; ok && !reflect.DeepEqual(elder, p) {
			t.Fatalf("%+v and %+v have one text", elder, p)
		}
		seen[s] = p
		if got, e := Read(s); e != api.OK || !reflect.DeepEqual(got, p) {
			t.Fatalf("%+v: %+v, %d", p, got, e)
		}
	}
}

// P21.2: what is loaded hangs on the package's files, the files near it, and where its imports lead to, alone.
func TestHangsOn(t *testing.T) {
	files := []string{"go.mod", "module m", "a/a.go", "package a\nimport \"m/b\"\n//go:embed e\n", "a/e/x", "1", "b/b.go", "package b", "n/go.mod", "module n"}
	load := func(more ...string) string {
		s, m := world(t, append(slices.Clone(files), more...)...)
		parts, e := Load(s, m, linux, "a")
		if e != api.OK || len(parts) != 1 {
			t.Fatalf("%v, %d", parts, e)
		}
		return Text(parts[0])
	}
	want := load()
	for _, more := range [][]string{{"b/c.go", "package b\nimport \"m/a\""}, {"c/c.go", "#"}, {"e/x", "2"}, {"a/f/x", "1"}, {"a/x.txt", ""}, {"n/n.go", "package n"}, {"a/.x.go", "#"}} {
		if load(more...) != want {
			t.Errorf("%q changes what is loaded", more)
		}
	}
	for _, more := range [][]string{{"a/b.go", "package a"}, {"a/e/y", ""}, {"b/go.mod", "module x"}, {"a/e/go.mod", "module x"}} {
		s, m := world(t, append(slices.Clone(files), more...)...)
		if parts, _ := Load(s, m, linux, "a"); Text(parts[0]) == want {
			t.Errorf("%q changes nothing", more)
		}
	}
}
