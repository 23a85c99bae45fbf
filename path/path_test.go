package path

import (
	"math/rand"
	"slices"
	"strings"
	"testing"
)

// deep is a text of n parts.
func deep(n int) string { return strings.Repeat("a/", n)[:2*n-1] }

// P6.1: what is a path, and what isn't.
func TestGood(t *testing.T) {
	good := []string{"a", "a/b", ".a", "a.", "...", "a/..b", " ", "\n", "\xff", "\x01", "go.mod", deep(16), strings.Repeat("x", 128), strings.Repeat("x", 126) + "/y"}
	bad := []string{"", "/", "/a", "a/", "a//b", ".", "..", "a/.", "./a", "a/../b", "\x00", "a\x00b", "a/b\x00", deep(17), strings.Repeat("x", 129), strings.Repeat("x", 127) + "/y"}
	for _, p := range good {
		if !Good(p) {
			t.Errorf("%q is a path", p)
		}
	}
	for _, p := range bad {
		if Good(p) {
			t.Errorf("%q is no path", p)
		}
	}
}

// P6.1: parts, of all texts.
func TestSplitJoin(t *testing.T) {
	for p, want := range map[string][]string{"": {}, "a": {"a"}, "a/b": {"a", "b"}, "/": {"", ""}, "a//b": {"a", "", "b"}, "a/": {"a", ""}, "../\x00": {"..", "\x00"}} {
		if got := Split(p); !slices.Equal(got, want) {
			t.Errorf("Split(%q) = %q", p, got)
		}
	}
	for _, x := range []struct {
		parts []string
		want  string
	}{{nil, ""}, {[]string{"", ""}, ""}, {[]string{"a"}, "a"}, {[]string{"", "a", "", "b", ""}, "a/b"}, {[]string{"a/b", "c"}, "a/b/c"}, {[]string{"/", ".."}, "//.."}} {
		if got := Join(x.parts...); got != x.want {
			t.Errorf("Join(%q) = %q", x.parts, got)
		}
	}
	parts := []string{"a", "", "b"}
	Join(parts...)
	if !slices.Equal(parts, []string{"a", "", "b"}) {
		t.Error(parts)
	}
}

// P6.1: the directory, and the last part, of all texts.
func TestDirBase(t *testing.T) {
	for p, want := range map[string][2]string{"": {"", ""}, "a": {"", "a"}, "a/b": {"a", "b"}, "a/b/c": {"a/b", "c"}, "/": {"", ""}, "/a": {"", "a"}, "a/": {"a", ""}, "a//b": {"a/", "b"}} {
		if Dir(p) != want[0] || Base(p) != want[1] {
			t.Errorf("%q: %q and %q", p, Dir(p), Base(p))
		}
	}
}

// P6.1: what lies under a directory.
func TestUnder(t *testing.T) {
	for _, x := range []struct {
		dir, p, want string
		ok           bool
	}{
		{"", "", "", false}, {"", "a", "a", true}, {"", "a/b", "a/b", true}, {"a", "a", "", false}, {"a", "a/", "", false}, {"a", "a/b", "b", true},
		{"a", "a/b/c", "b/c", true}, {"a", "ab/c", "", false}, {"a/b", "a/b/c", "c", true}, {"a/b", "a", "", false}, {"b", "a/b", "", false}, {"a", "/b", "", false}, {"ab", "/b", "", false}, {"a/", "a//b", "b", true},
	} {
		got, ok := Under(x.dir, x.p)
		if ok != x.ok || ok && got != x.want {
			t.Errorf("Under(%q, %q) = %q, %v", x.dir, x.p, got, ok)
		}
	}
}

// P6.1, P6.3: the order, part by part.
func TestCompare(t *testing.T) {
	row := []string{"", "/", "/a", "\x00", "a", "a/", "a/\x00", "a/b", "a/b/c", "a/b!", "a/bc", "a\x00", "a!", "a!/b", "a-b", "a.b", "ab", "b", "é", "\xff"}
	for i, a := range row {
		for j, b := range row {
			want := 0
			if i < j {
				want = -1
			} else if i > j {
				want = 1
			}
			if got := Compare(a, b); got != want {
				t.Errorf("Compare(%q, %q) = %d, want %d", a, b, got, want)
			}
		}
	}
}

// P6.3: one order of all texts.
func TestOneOrder(t *testing.T) {
	r := rand.New(rand.NewSource(1))
	text := func() string {
		b := make([]byte, r.Intn(5))
		for i := range b {
			b[i] = "/a.\x00\xff!"[r.Intn(6)]
		}
		return string(b)
	}
	for range 20000 {
		a, b, c := text(), text(), text()
		if Compare(a, b) != -Compare(b, a) || (Compare(a, b) == 0) != (a == b) {
			t.Fatalf("%q, %q", a, b)
		}
		if Compare(a, b) <= 0 && Compare(b, c) <= 0 && Compare(a, c) > 0 {
			t.Fatalf("%q, %q, %q", a, b, c)
		}
	}
}

// P6.1: where ways lead.
func TestFrom(t *testing.T) {
	long := strings.Repeat("x", 200)
	for _, x := range []struct {
		dir, way, want string
		ok             bool
	}{
		{"a/b", "../c/./d", "a/c/d", true}, {"a", "../..", "", false}, {"a", "..", "", true}, {"", "", "", true}, {"", ".", "", true}, {"", "..", "", false},
		{"a", "", "a", true}, {"a", "/", "a", true}, {"a", "//b//", "a/b", true}, {"", "/b", "b", true}, {"a", "../../a/b", "", false}, {"a/b", "../../c", "c", true},
		{"a", "b\x00", "", false}, {"a", "b\x00/..", "", false}, {"a", long, "", false}, {"a", long + "/../b", "a/b", true},
		{deep(16), "b", "", false}, {deep(15), "b", deep(15) + "/b", true}, {deep(16), "b/..", deep(16), true}, {deep(16), "../b", deep(15) + "/b", true},
		{strings.Repeat("x", 126), "y", strings.Repeat("x", 126) + "/y", true}, {strings.Repeat("x", 127), "y", "", false},
		{"a", "...", "a/...", true}, {"a", ".b", "a/.b", true}, {"", strings.Repeat("a/../", 1000) + "c", "c", true},
	} {
		got, ok := From(x.dir, x.way)
		if ok != x.ok || ok && got != x.want {
			t.Errorf("From(%q, %q) = %q, %v", x.dir, x.way, got, ok)
		}
	}
}

// P6.2: there and back, of paths.
func TestThereAndBack(t *testing.T) {
	r := rand.New(rand.NewSource(2))
	path := func(n int) string {
		parts := make([]string, n)
		for i := range parts {
			parts[i] = []string{"a", "b", ".c", "d.go", "\xff"}[r.Intn(5)]
		}
		return strings.Join(parts, "/")
	}
	for range 2000 {
		p := path(1 + r.Intn(16))
		if Join(Split(p)...) != p || Join(Dir(p), Base(p)) != p {
			t.Fatalf("%q", p)
		}
		dir := strings.Join(Split(p)[:r.Intn(len(Split(p)))], "/")
		rest, ok := Under(dir, p)
		if !ok || Join(dir, rest) != p {
			t.Fatalf("%q under %q: %q, %v", p, dir, rest, ok)
		}
		if end, ok := From(dir, rest); !ok || end != p {
			t.Fatalf("%q from %q: %q, %v", rest, dir, end, ok)
		}
		if Good(p) != (len(Split(p)) <= 16) {
			t.Fatalf("Good(%q) = %v", p, Good(p))
		}
	}
}
