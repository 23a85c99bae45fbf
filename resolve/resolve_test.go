package resolve

import (
	"math/rand"
	"slices"
	"strings"
	"testing"

	"seiche/api"
	"seiche/path"
	"seiche/tree"
)

// build is the map of files: paths and data, one behind the other.
func build(t *testing.T, list ...string) *Map {
	t.Helper()
	var files []api.File
	for i := 0; i < len(list); i += 2 {
		files = append(files, api.File{Path: list[i], Data: list[i+1]})
	}
	s := tree.New()
	root, e := s.Build(files...)
	if e != api.OK {
		t.Fatalf("build: error %d", e)
	}
	m, e := New(s, root)
	if e != api.OK || m == nil {
		t.Fatalf("map: error %d", e)
	}
	return m
}

// places checks where paths lead to from a directory; a place is written as InTree's directory with = ahead, or as a letter.
func places(t *testing.T, m *Map, dir string, list map[string]string) {
	t.Helper()
	for p, want := range list {
		x := api.Place{Kind: api.InTree, Dir: strings.TrimPrefix(want, "=")}
		if !strings.HasPrefix(want, "=") {
			x = api.Place{Kind: map[string]int{"std": api.InStd, "C": api.InC, "ext": api.External, "miss": api.Missing}[want]}
		}
		if got := m.Place(dir, p); got != x {
			t.Errorf("%q from %q: %+v, want %s", p, dir, got, want)
		}
	}
}

// P18.1: a module's own paths.
func TestOwn(t *testing.T) {
	m := build(t, "go.mod", "module a", "x/f.go", "", "x/y/f.txt", "", "x/y/z/f.go", "", "f.go", "", "n/go.mod", "module n", "n/f.go", "", "n/o/f.go", "", "_h/f.go", "", "t/_f.go", "", "t/f_test.go", "")
	for _, dir := range []string{"", "x", "x/y/z", "not/there"} {
		places(t, m, dir, map[string]string{
			"a": "=", "a/x": "=x", "a/x/y/z": "=x/y/z", "a/_h": "=_h", "a/t": "=t", "a/y": "miss", "a/x/y": "miss", "a/n": "miss", "a/n/o": "miss", "ab": "std", "ab/x": "std", "fmt": "std", "x": "std", "n": "std",
			"b.com/z": "ext", "a.b": "ext", "x/y.z": "std", ".": "ext", "": "std", "C": "C", "C/x": "std", "c": "std",
		})
	}
	places(t, m, "n", map[string]string{"n": "=n", "n/o": "=n/o", "n/x": "miss", "a": "std", "a/x": "std", "C": "C"})
}

// P18.1: a module's path that looks like one outside, and one with a fault.
func TestPathsAndFaults(t *testing.T) {
	m := build(t, "go.mod", "module b.com/m/v2", "f.go", "", "x/f.go", "", "bad/go.mod", "module", "bad/f.go", "", "bad/vendor/q/f.go", "", "vendor/q/f.go", "")
	places(t, m, "x", map[string]string{"b.com/m/v2": "=", "b.com/m/v2/x": "=x", "b.com/m/v2x": "ext", "b.com/m": "ext", "b.com/m/x": "ext", "b.com/m/v2/bad": "miss", "q": "=vendor/q"})
	places(t, m, "bad", map[string]string{"b.com/m/v2": "ext", "q": "std", "": "std"})
	places(t, m, "bad/vendor/q", map[string]string{"q": "std", "C": "C"})
	if dir, mod, ok := m.Module("bad/deep"); dir != "bad" || !ok || mod.Fault != 1 || mod.Path != "" {
		t.Errorf("%q, %+v, %v", dir, mod, ok)
	}
	none := build(t, "x/f.go", "", "vendor/q/f.go", "")
	places(t, none, "x", map[string]string{"x": "std", "q": "std", "b.c/x": "ext", "C": "C"})
}

// P18.1: paths that are replaced.
func TestReplaced(t *testing.T) {
	m := build(t,
		"m/go.mod", "module a\nreplace (\n b => ./p\n b/q => ../q\n a/r => ./s\n a/r/r => ./r\n c => ../../x\n d => ../none\n e v1 => ../mod/sub\n f => .\n a => ./p\n g => ..\n h => ../out\n)",
		"m/f.go", "", "m/p/f.go", "", "m/p/y/f.go", "", "m/p/n/go.mod", "module n", "m/p/n/f.go", "", "m/s/f.go", "", "m/s/t/f.go", "", "m/r/f.go", "", "m/x/f.go", "",
		"q/f.go", "", "q/go.mod", "module other", "q/u/f.go", "", "mod/go.mod", "module", "mod/sub/f.go", "", "mod/sub/v/f.go", "", "out/f.go", "", "f.go", "", "m/vendor/b/f.go", "",
	)
	places(t, m, "m/p", map[string]string{
		"b": "=m/p", "b/y": "=m/p/y", "b/n": "miss", "b/z": "miss", "bb": "std", "b/q": "=q", "b/q/u": "=q/u", "b/qq": "miss",
		"a": "=m", "a/x": "=m/x", "a/p": "=m/p", "a/r": "=m/s", "a/r/t": "=m/s/t", "a/r/r": "=m/r", "a/s": "=m/s", "a/vendor/b": "=m/vendor/b",
		"c": "miss", "c/x": "miss", "d": "miss", "e": "=mod/sub", "e/v": "=mod/sub/v", "f": "=m", "f/x": "=m/x", "f/p/n": "miss",
		"g": "miss", "g/out": "miss", "h": "miss", "fmt": "std", "C": "C",
	})
}

// P18.1: ways that lead out of the tree.
func TestAbove(t *testing.T) {
	m := build(t, "go.mod", "module a\nreplace b => ../x\nreplace c => ./x/../..\nreplace d => ./x/..", "f.go", "", "x/f.go", "")
	for _, dir := range []string{"", "x"} {
		places(t, m, dir, map[string]string{"b": "miss", "b/x": "miss", "c": "miss", "c/x": "miss", "d": "=", "d/x": "=x"})
	}
}

// P18.1: what stands in vendor.
func TestVendor(t *testing.T) {
	m := build(t, "go.mod", "module a", "x/f.go", "", "vendor/b.com/q/f.go", "", "vendor/fmt/f.go", "", "vendor/e/f.txt", "", "vendor/f.go", "", "vendor/n/go.mod", "module n", "vendor/n/f.go", "", "vendor/C/f.go", "", "x/vendor/z/f.go", "", "vendor/a/w/f.go", "", "s/go.mod", "module s", "s/f.go", "")
	places(t, m, "x", map[string]string{"b.com/q": "=vendor/b.com/q", "fmt": "=vendor/fmt", "e": "std", "n": "=vendor/n", "z": "std", "b.com": "ext", "C": "C", "": "std", "a/w": "miss", "b.com/q/r": "ext"})
	places(t, m, "s", map[string]string{"fmt": "std", "b.com/q": "ext"})
}

// P18.1: to which module directories belong, and what it says.
func TestModule(t *testing.T) {
	m := build(t, "a/go.mod", "module a\ngo 1.5\nreplace x => ./y", "a/b/c/f.go", "", "a/b/d/go.mod", "module d", "e/f.go", "", "f/go.mod/g.go", "", "g/xgo.mod", "module g")
	for dir, want := range map[string]string{"a": "a", "a/b": "a", "a/b/c": "a", "a/b/d": "a/b/d", "a/b/d/e": "a/b/d", "a/not/there": "a", "": "-", "e": "-", "ab": "-", "f": "-", "f/go.mod": "-", "g": "-"} {
		got, mod, ok := m.Module(dir)
		if want == "-" && (ok || got != "" || mod.Path != "") || want != "-" && (!ok || got != want || mod.Path != path.Base(want)) {
			t.Errorf("%q: %q, %+v, %v", dir, got, mod, ok)
		}
	}
	_, mod, _ := m.Module("a")
	if mod.Level != 5 || !slices.Equal(mod.Replaces, []api.Replace{{Path: "x", Dir: "./y"}}) {
		t.Errorf("%+v", mod)
	}
	mod.Replaces[0].Path = "z"
	if _, again, _ := m.Module("a"); again.Replaces[0].Path != "x" {
		t.Error("two answers share a list")
	}
	root := build(t, "go.mod", "module r")
	if dir, mod, ok := root.Module("x/y"); dir != "" || mod.Path != "r" || !ok {
		t.Errorf("%q, %+v, %v", dir, mod, ok)
	}
}

// P18.1: which directories have files of the language, and which files there are.
func TestHas(t *testing.T) {
	m := build(t, "a/f.go", "1", "a/b/c/f_test.go", "2", "d/_f.go", "", "e/.f.go", "", "f/f.txt", "", "g/go", "", "h.go/x", "")
	for dir, want := range map[string]bool{"": false, "a": true, "a/b": false, "a/b/c": true, "d": false, "e": false, "f": false, "g": false, "h.go": false, "a/": false, "none": false} {
		if m.Has(dir) != want {
			t.Errorf("%q", dir)
		}
	}
	if !build(t, "f.go", "").Has("") {
		t.Error("the tree itself")
	}
	files := m.Files()
	if len(files) != 7 || files[0].Path != "a/b/c/f_test.go" || files[1].Path != "a/f.go" {
		t.Errorf("%v", files)
	}
	files[0].Path = "x"
	if m.Files()[0].Path == "x" {
		t.Error("two answers share a list")
	}
}

// P18.1: errors, and what a nil map answers.
func TestErrors(t *testing.T) {
	if m, e := New(nil, api.Id{}); m != nil || e != api.ErrNil {
		t.Error("a nil store")
	}
	s := tree.New()
	if m, e := New(s, api.Id{}); m != nil || e != api.ErrNone {
		t.Error("no tree")
	}
	lost, _ := s.PutTree(api.Entry{Name: "go.mod", Id: api.Id{1}})
	if m, e := New(s, lost); m != nil || e != api.ErrNone {
		t.Error("a go.mod whose bytes aren't there")
	}
	deep := lost
	for range 16 {
		deep, _ = s.PutTree(api.Entry{Name: "d", Tree: true, Id: deep})
	}
	if m, e := New(s, deep); m != nil || e != api.ErrDeep {
		t.Error("a tree that is too deep")
	}
	bare, _ := s.PutTree(api.Entry{Name: "f.go", Id: api.Id{1}}, api.Entry{Name: "go.mod", Tree: true, Id: lost})
	if m, e := New(s, bare); e != api.ErrNone || m != nil {
		t.Error("below a directory go.mod")
	}
	other, _ := s.PutTree(api.Entry{Name: "f.go", Id: api.Id{1}})
	if m, e := New(s, other); e != api.OK || !m.Has("") {
		t.Error("other bytes aren't asked for")
	}
	var m *Map
	if _, _, ok := m.Module("a"); ok || m.Has("") || len(m.Files()) != 0 {
		t.Error("a nil map has something")
	}
	places(t, m, "a", map[string]string{"C": "C", "fmt": "std", "a.b/c": "ext"})
}

// P18.1: calls end, whatever they are asked.
func TestEnds(t *testing.T) {
	m := build(t, "go.mod", "module a\nreplace b => ./c", "f.go", "")
	r := rand.New(rand.NewSource(1))
	for range 20000 {
		text := func() string {
			s := ""
			for range r.Intn(6) {
				s += []string{"/", "a", "b", ".", "..", "\x00", "\xff"}[r.Intn(7)]
			}
			return s
		}
		dir := text()
		m.Place(dir, text())
		m.Module(dir)
		m.Has(dir)
	}
}

// P18.2: what lies in the tree has files of the language, and belongs to a module, or to vendor.
func TestInTree(t *testing.T) {
	r := rand.New(rand.NewSource(2))
	seen := 0
	for range 3000 {
		list := map[string]string{}
		for range 8 {
			dir := []string{"", "m/", "m/n/", "vendor/x/", "m/vendor/x/", "o/", "m/b/"}[r.Intn(7)]
			if r.Intn(3) == 0 {
				list[dir+"go.mod"] = []string{"module a", "module x\nreplace a => ../o\nreplace o => .", "module m\nreplace x => ./n", "module"}[r.Intn(4)]
			} else {
				list[dir+[]string{"f.go", "f.txt"}[r.Intn(2)]] = ""
			}
		}
		var flat []string
		for p, data := range list {
			flat = append(flat, p, data)
		}
		m := build(t, flat...)
		for _, dir := range []string{"", "m", "m/n", "o"} {
			for _, p := range []string{"a", "a/m", "x", "x/n", "o", "m", "m/b", "x/m/n"} {
				place := m.Place(dir, p)
				if place.Kind != api.InTree {
					if place.Dir != "" || place.Kind < api.InStd || place.Kind > api.Missing {
						t.Fatalf("%+v", place)
					}
					continue
				}
				seen++
				_, _, ok := m.Module(place.Dir)
				if !m.Has(place.Dir) || !ok && !strings.Contains(place.Dir, "vendor") {
					t.Fatalf("%v: %q from %q: %+v", list, p, dir, place)
				}
			}
		}
	}
	if seen < 1000 {
		t.Errorf("%d places", seen)
	}
}
