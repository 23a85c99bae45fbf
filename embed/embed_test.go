package embed

import (
	"math/rand"
	"slices"
	"strings"
	"testing"

	"seiche/api"
	"seiche/object"
	"seiche/resolve"
	"seiche/tree"
)

// build is the map of files; each one's data is its path, but for those of go.mods.
func build(t *testing.T, paths ...string) *resolve.Map {
	t.Helper()
	var files []api.File
	for _, p := range paths {
		data := p
		if strings.HasSuffix(p, "go.mod") {
			data = "module m"
		}
		files = append(files, api.File{Path: p, Data: data})
	}
	s := tree.New()
	root, e := s.Build(files...)
	if e != api.OK {
		t.Fatalf("build: error %d", e)
	}
	m, e := resolve.New(s, root)
	if e != api.OK {
		t.Fatalf("map: error %d", e)
	}
	return m
}

// expand is what patterns embed, as one text; a fault as its number.
func expand(t *testing.T, m *resolve.Map, dir string, patterns ...string) string {
	t.Helper()
	list, fault := Expand(m, dir, patterns...)
	if fault != api.FaultNone {
		if len(list) != 0 {
			t.Errorf("%q: files beside a fault", patterns)
		}
		return string(rune('0' + fault))
	}
	var out []string
	for _, x := range list {
		out = append(out, x.Path)
		if x.Id != object.Blob(x.Path) && !strings.HasSuffix(x.Path, "go.mod") {
			t.Errorf("%s: another digest", x.Path)
		}
	}
	return strings.Join(out, " ")
}

const (
	embed = "5"
	match = "7"
)

// P20.1: what patterns embed.
func TestExpand(t *testing.T) {
	m := build(t, "go.mod", "a.go", "d/x", "d/.y", "d/_z", "d/e/w", "d/e/.v", "d/.f/u", "d/.f/.g", "d/_f/u", ".h/i", "_j/k", ".l", "_m", "all:n", "d!/x", "n/go.mod", "n/f", "n/o/f", "p/n/go.mod", "p/n/f", "p/q", "p/n.x", "s[", "t/u")
	for patterns, want := range map[string]string{
		"":              "",
		"d":             "d/e/w d/x",
		"all:d":         "d/.f/.g d/.f/u d/.y d/_f/u d/_z d/e/.v d/e/w d/x",
		"d/.y":          "d/.y",
		"d/_z":          "d/_z",
		"all:d/_z":      "d/_z",
		"d/*":           "d/.f/u d/.y d/_f/u d/_z d/e/w d/x",
		"all:d/*":       "d/.f/.g d/.f/u d/.y d/_f/u d/_z d/e/.v d/e/w d/x",
		"d/.f":          "d/.f/u",
		"d/.f/.g":       "d/.f/.g",
		"d/*/u":         "d/.f/u d/_f/u",
		"d/e":           "d/e/w",
		"all:d/e":       "d/e/.v d/e/w",
		"*":             ".h/i .l _j/k _m a.go all:n d/e/w d/x d!/x go.mod p/n.x p/q s[ t/u",
		"all:*":         ".h/i .l _j/k _m a.go all:n d/.f/.g d/.f/u d/.y d/_f/u d/_z d/e/.v d/e/w d/x d!/x go.mod p/n.x p/q s[ t/u",
		"*.go":          "a.go",
		"go.mod":        "go.mod",
		"d?":            "d!/x",
		"t|a.go|t/u":    "a.go t/u",
		"t/u|t/u":       "t/u",
		"all:all:n":     "all:n",
		"all\\:n":       "all:n",
		"[a]ll:n":       "all:n",
		"s\\[":          "s[",
		"p":             "p/n.x p/q",
		"p/*":           "p/n.x p/q",
		"p/n/f":         match,
		"n":             match,
		"n/f":           match,
		"n/o/f":         match,
		"x":             match,
		"all:n":         match,
		"D":             match,
		"d/x/y":         match,
		"d/":            embed,
		"/d":            embed,
		"d//x":          embed,
		".":             embed,
		"..":            embed,
		"./d":           embed,
		"d/..":          embed,
		"d/./x":         embed,
		"../d":          embed,
		"all:":          embed,
		"all:.":         embed,
		"all:/":         embed,
		"[":             embed,
		"d/[]":          embed,
		"d\\":           embed,
		"s[":            embed,
		"t|x|[":         match,
		"t|[|x":         embed,
		"t|t|.":         embed,
		"t|":            embed,
		"x|t":           match,
		"d[/]x":         "d/x",
		"...|t":         match,
		"d/.*":          "d/.f/u d/.y",
		"\\d/\\x":       "d/x",
		"\\.l":          ".l",
		"d/[_.]?":       "d/.f/u d/.y d/_f/u d/_z",
		"all:t|d/e|t/u": "d/e/w t/u",
	} {
		list := strings.Split(patterns, "|")
		if patterns == "" {
			list = nil
		}
		if got := expand(t, m, "", list...); got != want {
			t.Errorf("%q: %s, want %s", patterns, got, want)
		}
	}
	if got := expand(t, m, "", ""); got != embed {
		t.Errorf("a pattern without bytes: %s", got)
	}
}

// P20.1: from another directory, of the same module, of another one, and of none.
func TestDirs(t *testing.T) {
	m := build(t, "a/x", "a/m/go.mod", "a/m/y", "a/m/d/z", "a/m/d/n/go.mod", "a/m/d/n/w", "a/mm/v", "b/a/x", "b/go.mod")
	for _, x := range []struct{ dir, pattern, want string }{
		{"", "*", "a/mm/v a/x"}, {"", "a", "a/mm/v a/x"}, {"", "a/m", match}, {"a", "*", "a/mm/v a/x"}, {"a", "x", "a/x"}, {"a", "a", match}, {"a", "m", match}, {"a/m", "*", "a/m/d/z a/m/go.mod a/m/y"},
		{"a/m", "d", "a/m/d/z"}, {"a/m/d", "*", "a/m/d/z"}, {"a/m/d", "z", "a/m/d/z"}, {"a/m/d/n", "w", "a/m/d/n/w"}, {"a/mm", "v", "a/mm/v"}, {"b/a", "*", "b/a/x"}, {"b", "a/x", "b/a/x"}, {"c", "*", match}, {"a/x", "*", match},
	} {
		if got := expand(t, m, x.dir, x.pattern); got != x.want {
			t.Errorf("%q from %q: %s, want %s", x.pattern, x.dir, got, x.want)
		}
	}
}

// P20.1: what a nil map answers; and other directories come to an end.
func TestNil(t *testing.T) {
	for pattern, want := range map[string]string{"*": match, "[": embed, "": embed} {
		if got := expand(t, nil, "", pattern); got != want {
			t.Errorf("%q: %s", pattern, got)
		}
	}
	if got := expand(t, nil, ""); got != "" {
		t.Error(got)
	}
	m := build(t, "a/b", "go.mod")
	for _, dir := range []string{"/", "a/", "//", "..", "a/..", "\x00", "a//b"} {
		Expand(m, dir, "*")
	}
}

// P20.2: more patterns, if none is a fault, embed all that fewer do; their order doesn't matter.
func TestMore(t *testing.T) {
	m := build(t, "a/b/c", "a/b/.d", "a/_e/f", "a/g", "h", ".i/j", "_k")
	r := rand.New(rand.NewSource(1))
	all := []string{"a", "a/b", "all:a", "a/b/.d", "*", "all:*", "a/*", "h", ".i", "x", "?", "a/*/*", "[", "_k", "all:a/_e"}
	for range 5000 {
		var list []string
		for range 1 + r.Intn(4) {
			list = append(list, all[r.Intn(len(all))])
		}
		got, fault := Expand(m, "", list...)
		if fault != api.FaultNone {
			continue
		}
		for i := range list {
			fewer, _ := Expand(m, "", slices.Delete(slices.Clone(list), i, i+1)...)
			one, _ := Expand(m, "", list[i])
			for _, x := range append(fewer, one...) {
				if !slices.Contains(got, x) {
					t.Fatalf("%q: %s isn't embedded", list, x.Path)
				}
			}
		}
		other := slices.Clone(list)
		r.Shuffle(len(other), func(i, j int) { other[i], other[j] = other[j], other[i] })
		if again, _ := Expand(m, "", other...); !slices.Equal(again, got) {
			t.Fatalf("%q and %q", list, other)
		}
	}
}
