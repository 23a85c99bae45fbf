package impact

import (
	"fmt"
	"math/rand"
	"reflect"
	"slices"
	"strings"
	"testing"

	"seiche/api"
	"seiche/code"
	"seiche/disk"
	"seiche/graph"
	"seiche/kvlog"
	"seiche/load"
	"seiche/path"
	"seiche/resolve"
	"seiche/suffix"
	"seiche/tree"
)

var linux = api.Config{OS: "linux", Arch: "amd64", Level: 21}

// files are files of paths and data, one behind the other.
func files(list ...string) []api.File {
	var out []api.File
	for i := 0; i < len(list); i += 2 {
		out = append(out, api.File{Path: list[i], Data: list[i+1]})
	}
	return out
}

// commit commits files.
func commit(t *testing.T, w *World, list ...api.File) api.Id {
	t.Helper()
	id, e := w.Commit("n", list...)
	if e != api.OK {
		t.Fatalf("commit: error %d", e)
	}
	return id
}

// turned are files of which some have other data, or are gone ("-"), or new.
func turned(list []api.File, more ...string) []api.File {
	out := slices.Clone(list)
	for i := 0; i < len(more); i += 2 {
		out = slices.DeleteFunc(out, func(f api.File) bool { return f.Path == more[i] })
		if more[i+1] != "-" {
			out = append(out, api.File{Path: more[i], Data: more[i+1]})
		}
	}
	return out
}

// showUnit is a unit as a text; showHits are units that are affected.
func showUnit(u api.Unit) string { return fmt.Sprintf("%s:%d", u.Dir, u.Kind) }

func showHits(hits []api.Hit) string {
	var out []string
	for _, h := range hits {
		s := showUnit(h.Unit) + []string{"?", " new", " gone", " self", " by "}[h.Reason]
		if h.Reason == api.IsDeep {
			s += showUnit(h.By)
		} else if h.By != (api.Unit{}) {
			s += " and By"
		}
		out = append(out, s)
	}
	return strings.Join(out, ", ")
}

// analyze checks what is affected between two lists of files.
func analyze(t *testing.T, what string, a, b []api.File, c api.Config, want string) {
	t.Helper()
	for _, cache := range []*kvlog.Store{nil, open(t, disk.New(api.MaxRoom), 4096), open(t, disk.New(3000), 3)} {
		w := New(cache)
		hits, e := w.Analyze(commit(t, w, a...), commit(t, w, b...), c)
		if got := showHits(hits); e != api.OK || got != want {
			t.Errorf("%s: %s (error %d), want %s", what, got, e, want)
		}
	}
}

// open opens a cache.
func open(t *testing.T, d *disk.Device, most int) *kvlog.Store {
	t.Helper()
	s, e := kvlog.Open(d, "cache", most)
	if e != api.OK {
		t.Fatalf("open: error %d", e)
	}
	return s
}

// base is a tree of three packages: a imports b, c's test outside imports a.
var base = files("go.mod", "module m", "a/a.go", "package a\nimport \"m/b\"\n//go:embed e\n", "a/e", "1", "b/b.go", "package b", "c/c.go", "package c", "c/c_test.go", "package c_test\nimport \"m/a\"", "d/d.go", "package d", "z/b.go", "package b")

// P23.1, P1: the examples of the whole.
func TestExamples(t *testing.T) {
	analyze(t, "nothing", base, base, linux, "")
	analyze(t, "1 and 2: a file that is imported", base, turned(base, "b/b.go", "package b // x"), linux, "a:1 by b:1, b:1 self, c:3 by a:1")
	analyze(t, "3: a file that is embedded", base, turned(base, "a/e", "2"), linux, "a:1 self, c:3 by a:1")
	analyze(t, "4: another platform's file", base, turned(base, "b/x_windows.go", "package b"), linux, "")
	analyze(t, "4: there", base, turned(base, "b/x_windows.go", "package b"), api.Config{OS: "windows"}, "a:1 by b:1, b:1 self, c:3 by a:1")
	analyze(t, "5: a path that is replaced", base, turned(base, "go.mod", "module m\nreplace m/b => ./z"), linux, "a:1 self, c:3 by a:1")
	analyze(t, "6: a new module", base, turned(base, "b/go.mod", "module b"), linux, "a:1 self, c:3 by a:1")
	ring := turned(base, "b/b.go", "package b\nimport \"m/a\"")
	analyze(t, "7: a ring", ring, turned(ring, "a/e", "2"), linux, "a:1 self, b:1 by a:1, c:3 by a:1")
	analyze(t, "7: a ring", ring, turned(ring, "b/b.go", "package b\nimport \"m/a\" "), linux, "a:1 by b:1, b:1 self, c:3 by a:1")
	bad := turned(base, "b/b.go", "package")
	analyze(t, "8: a fault", base, bad, linux, "a:1 by b:1, b:1 self, c:3 by a:1")
	analyze(t, "8: it is repaired", bad, base, linux, "a:1 by b:1, b:1 self, c:3 by a:1")
	analyze(t, "what nobody uses", base, turned(base, "d/d.go", "package d // x", "x.txt", "y"), linux, "d:1 self")
	analyze(t, "new and gone", base, turned(base, "b/b.go", "-", "e/e.go", "package e"), linux, "a:1 self, b:1 gone, c:3 by a:1, e:1 new")
	analyze(t, "a test is new", base, turned(base, "a/a_test.go", "package a"), linux, "a:2 new")
	analyze(t, "all is gone", base, nil, linux, "a:1 gone, b:1 gone, c:1 gone, c:3 gone, d:1 gone, z:1 gone")
	analyze(t, "all is new", nil, base, linux, "a:1 new, b:1 new, c:1 new, c:3 new, d:1 new, z:1 new")
	own := files("go.mod", "module m", "a/a.go", "package a\nimport \"m/a\"\nimport \"m/b\"", "b/b.go", "package b")
	analyze(t, "one that leans on itself", own, turned(own, "b/b.go", "package b "), linux, "a:1 by a:1, b:1 self")
}

// P23.1: errors, in their order; nothing is reckoned beside one.
func TestErrors(t *testing.T) {
	w := New(nil)
	long := strings.Repeat("n", api.MaxNote+1)
	for _, x := range []struct {
		note  string
		files []api.File
		e     api.Errno
	}{
		{long, files("..", ""), api.ErrArg}, {long, files("a", strings.Repeat("x", api.MaxFile+1)), api.ErrArg}, {long, nil, api.ErrArg}, {long[1:], files("a", "x"), api.OK}, {"", nil, api.OK}, {"", files("..", ""), api.ErrArg}, {"", files("a", strings.Repeat("x", api.MaxFile+1)), api.ErrLong},
		{"", make([]api.File, api.MaxFiles+1), api.ErrLong},
	} {
		id, e := w.Commit(x.note, x.files...)
		if e != x.e || (e != api.OK) != (id == api.Id{}) {
			t.Errorf("commit: error %d, want %d", e, x.e)
		}
	}
	a := commit(t, w, base...)
	s := tree.New()
	root, _ := s.Build(base...)
	if id, _ := s.PutCommit(api.Commit{Root: root, Note: "n"}); id != a {
		t.Error("the name of a commit")
	}
	for _, x := range [][2]api.Id{{a, {}}, {{}, a}, {{}, {}}, {root, a}} {
		hits, e1 := w.Analyze(x[0], x[1], linux)
		row, e2 := w.Why(x[0], x[1], linux, api.Unit{Dir: "a", Kind: 1})
		if e1 != api.ErrNone || e2 != api.ErrNone || len(hits)+len(row) != 0 {
			t.Errorf("errors %d, %d", e1, e2)
		}
	}
	if g, e := w.Graph(api.Id{}, linux); e != api.ErrNone || g != nil {
		t.Errorf("graph: error %d", e)
	}
	var deep []api.File
	for i := range api.MaxFiles {
		deep = append(deep, api.File{Path: fmt.Sprintf("%d/%sf.go", i, strings.Repeat("d/", 10)), Data: "package p"})
	}
	wide := commit(t, w, deep...) // more entries than are gone through
	hits, e1 := w.Analyze(a, wide, linux)
	g, e2 := w.Graph(wide, linux)
	if e1 != api.ErrLong || e2 != api.ErrLong || len(hits) != 0 || g != nil {
		t.Errorf("errors %d, %d", e1, e2)
	}
	if n, k := w.Counts(); n != 0 || k != 0 {
		t.Errorf("reckoned beside an error: %d, %d", n, k)
	}
	if row, e := w.Why(a, a, linux, api.Unit{Dir: "a", Kind: 1}); e != api.ErrNone || len(row) != 0 {
		t.Errorf("not affected: %d", e)
	}
}

// P23.1: what a nil world answers.
func TestNil(t *testing.T) {
	var w *World
	w.Use(nil)
	_, e1 := w.Commit(strings.Repeat("n", 65))
	_, e2 := w.Graph(api.Id{}, linux)
	_, e3 := w.Analyze(api.Id{}, api.Id{}, linux)
	_, e4 := w.Why(api.Id{}, api.Id{}, linux, api.Unit{})
	for _, e := range []api.Errno{e1, e2, e3, e4} {
		if e != api.ErrNil {
			t.Errorf("error %d", e)
		}
	}
	if n, k := w.Counts(); n != 0 || k != 0 {
		t.Error("counts")
	}
}

// why checks a row.
func why(t *testing.T, a, b []api.File, u, want string) {
	t.Helper()
	w := New(nil)
	dir, kind, _ := strings.Cut(u, ":")
	row, e := w.Why(commit(t, w, a...), commit(t, w, b...), linux, api.Unit{Dir: dir, Kind: int(kind[0] - '0')})
	var out []string
	for _, x := range row {
		out = append(out, showUnit(x))
	}
	if got := strings.Join(out, " "); got != want || (e == api.OK) != (want != "") || e != api.OK && e != api.ErrNone {
		t.Errorf("%s: %s (error %d), want %s", u, got, e, want)
	}
}

// P23.1, P23.3: shortest rows, the first ones in order.
func TestWhy(t *testing.T) {
	b := turned(base, "b/b.go", "package b // x", "e/e.go", "package e", "z/b.go", "-")
	for u, want := range map[string]string{"c:3": "c:3 a:1 b:1", "a:1": "a:1 b:1", "b:1": "b:1", "e:1": "e:1", "z:1": "z:1", "d:1": "", "c:1": "", "x:1": "", "a:2": ""} {
		why(t, base, b, u, want)
	}
	imports := func(list string) string {
		s := "package p\n"
		for _, x := range strings.Fields(list) {
			s += "import \"m/" + x + "\"\n"
		}
		return s
	}
	var net []api.File
	for dir, list := range map[string]string{"a": "b c d", "b": "e", "c": "f g", "d": "h", "e": "i", "f": "f a z", "g": "z", "h": "y", "i": "z", "y": "", "z": ""} {
		net = append(net, files(dir+"/x.go", imports(list))...)
	}
	net = append(net, files("go.mod", "module m")...)
	both := turned(net, "y/x.go", "package p\n//", "z/x.go", "package p\n//")
	why(t, net, both, "a:1", "a:1 c:1 f:1 z:1")
	why(t, net, both, "f:1", "f:1 z:1")
	why(t, net, turned(net, "y/x.go", "package p\n//"), "a:1", "a:1 d:1 h:1 y:1")
	why(t, net, turned(net, "y/x.go", "package p\n//"), "f:1", "f:1 a:1 d:1 h:1 y:1")
	why(t, net, turned(both, "h/x.go", imports("y")+"//"), "a:1", "a:1 d:1 h:1")
	why(t, net, turned(both, "a/x.go", imports("b c d")+"//"), "f:1", "f:1 a:1")
}

// plainGraph is a commit's graph, without a world.
func plainGraph(t *testing.T, list []api.File, c api.Config) *graph.Graph {
	t.Helper()
	s := tree.New()
	root, e := s.Build(list...)
	m, e2 := resolve.New(s, root)
	if e != api.OK || e2 != api.OK {
		t.Fatalf("errors %d, %d", e, e2)
	}
	var parts []api.Part
	for _, dir := range load.Dirs(m) {
		some, e := load.Load(load.From(s), m, c, dir)
		if e != api.OK {
			t.Fatalf("load: error %d", e)
		}
		parts = append(parts, some...)
	}
	return graph.New(parts...)
}

// far: a unit, and all on which it leans, over others, too.
func far(g *graph.Graph, u api.Unit) map[api.Unit]api.Node {
	out := map[api.Unit]api.Node{}
	row := []api.Unit{u}
	for len(row) > 0 {
		n, ok := g.Node(row[0])
		if _, met := out[row[0]]; ok && !met {
			out[row[0]] = n
			row = append(row, n.Leans...)
		}
		row = row[1:]
	}
	return out
}

// plainHits are the units that are affected, by the plain words.
func plainHits(a, b *graph.Graph) []api.Hit {
	hit := map[api.Unit]bool{}
	units := append(a.Units(), b.Units()...)
	slices.SortFunc(units, graph.Compare)
	units = slices.Compact(units)
	for _, u := range units {
		hit[u] = !reflect.DeepEqual(far(a, u), far(b, u))
	}
	var out []api.Hit
	for _, u := range units {
		if !hit[u] {
			continue
		}
		x, ok1 := a.Node(u)
		y, ok2 := b.Node(u)
		h := api.Hit{Unit: u, Reason: api.IsDeep}
		switch {
		case !ok1:
			h.Reason = api.IsNew
		case !ok2:
			h.Reason = api.IsGone
		case !reflect.DeepEqual(x, y):
			h.Reason = api.IsSelf
		default:
			for _, v := range slices.Backward(y.Leans) {
				if hit[v] {
					h.By = v
				}
			}
		}
		out = append(out, h)
	}
	return out
}

// plainRow is the row of a unit, by trying all rows of one length after the other.
func plainRow(b *graph.Graph, hits []api.Hit, u api.Unit) []api.Unit {
	reason := map[api.Unit]int{}
	for _, h := range hits {
		reason[h.Unit] = h.Reason
	}
	rows := [][]api.Unit{{u}}
	for range 20 {
		var next [][]api.Unit
		for _, row := range rows {
			last := row[len(row)-1]
			if reason[last] != api.IsDeep {
				return row
			}
			n, _ := b.Node(last)
			for _, v := range n.Leans {
				if reason[v] != 0 && !slices.Contains(row, v) {
					next = append(next, append(slices.Clone(row), v))
				}
			}
		}
		rows = next
	}
	return nil
}

// anyFiles are files by chance.
func anyFiles(r *rand.Rand) []api.File {
	out := files("go.mod", []string{"module m", "module m", "module m\nreplace m/c => ./a", "module"}[r.Intn(4)])
	for _, dir := range strings.Split("abcde", "") {
		for _, name := range []string{"x.go", "y.go", "x_windows.go", "x_test.go", "y_test.go"} {
			if r.Intn(3) > 0 {
				continue
			}
			data := []string{"package p", "package p", "package p", "package p_test", "package q", "package", "//go:build windows\npackage p"}[r.Intn(7)]
			if strings.HasPrefix(name, "y_") {
				data = "package p_test"
			}
			for range r.Intn(3) {
				data += []string{"\nimport \"m/a\"", "\nimport \"m/b\"", "\nimport \"m/c\"", "\nimport \"m/d\"", "\nimport \"fmt\"", "\n//go:embed e\n"}[r.Intn(6)]
			}
			out = append(out, api.File{Path: dir + "/" + name, Data: data})
		}
		if r.Intn(3) == 0 {
			out = append(out, api.File{Path: dir + "/e", Data: fmt.Sprint(r.Intn(2))})
		}
		if r.Intn(9) == 0 {
			out = append(out, api.File{Path: dir + "/go.mod", Data: "module m/" + dir})
		}
	}
	return out
}

// change turns some files by chance.
func change(r *rand.Rand, list []api.File) []api.File {
	other := anyFiles(r)
	out := slices.Clone(list)
	for range 1 + r.Intn(3) {
		f := other[r.Intn(len(other))]
		out = turned(out, f.Path, []string{f.Data, "-"}[r.Intn(2)])
	}
	return out
}

// P23.1, P23.3, P1, P2: in any script of commits and analyses, with a cache and without, whatever becomes of it, the answers are the plain ones.
func TestAnyWorld(t *testing.T) {
	r := rand.New(rand.NewSource(1))
	deep := 0
	for range 120 {
		d := disk.New([]int{0, 300, 5000, 60000, api.MaxRoom}[r.Intn(5)])
		most := []int{1, 3, 20, 4096}[r.Intn(4)]
		cache := open(t, d, most)
		w := New(cache)
		if r.Intn(5) == 0 {
			w = New(nil)
		}
		history := [][]api.File{anyFiles(r)}
		ids := []api.Id{commit(t, w, history[0]...)}
		for range 25 {
			switch r.Intn(10) {
			case 0:
				cache.Evict(r.Intn(10))
			case 1:
				cache.Compact()
			case 2:
				cache.Sync()
			case 3:
				d.Arm(1+r.Intn(6), r.Intn(200), r.Intn(2) == 0)
			case 4:
				d.Off(r.Intn(500), r.Intn(2) == 0)
				d.On()
				d.Arm(0, 0, false)
				cache = open(t, d, most)
				w.Use(cache)
			case 5, 6:
				history = append(history, change(r, history[len(history)-1]))
				ids = append(ids, commit(t, w, history[len(history)-1]...))
			default:
				i, j := r.Intn(len(ids)), r.Intn(len(ids))
				c := []api.Config{linux, {OS: "windows"}, {OS: "windows", Cgo: true}}[r.Intn(3)]
				a, b := plainGraph(t, history[i], c), plainGraph(t, history[j], c)
				want := plainHits(a, b)
				hits, e := w.Analyze(ids[i], ids[j], c)
				if e != api.OK || !slices.Equal(hits, want) {
					t.Fatalf("%s (error %d), want %s", showHits(hits), e, showHits(want))
				}
				g, _ := w.Graph(ids[i], c)
				if !slices.Equal(g.Units(), a.Units()) {
					t.Fatal("another graph")
				}
				for _, u := range a.Units() {
					x, _ := g.Node(u)
					y, _ := a.Node(u)
					if load.Text(x.Part) != load.Text(y.Part) {
						t.Fatalf("%s: another part", showUnit(u))
					}
				}
				for _, h := range hits {
					row, e := w.Why(ids[i], ids[j], c, h.Unit)
					if wantRow := plainRow(b, want, h.Unit); e != api.OK || !slices.Equal(row, wantRow) {
						t.Fatalf("%v (error %d), want %v", row, e, wantRow)
					}
					if len(row) > 1 {
						deep++
					}
				}
			}
		}
	}
	if deep < 50 {
		t.Errorf("%d long rows", deep)
	}
}

// P23.1, P23.3: rows in any net of imports, against all rows that there are.
func TestAnyRow(t *testing.T) {
	r := rand.New(rand.NewSource(4))
	lengths := [9]int{}
	for range 400 {
		list := files("go.mod", "module m")
		for _, dir := range strings.Split("abcdefgh", "") {
			data := "package p"
			for range 1 + r.Intn(2) {
				data += "\nimport \"m/" + string(rune('a'+r.Intn(8))) + "\""
			}
			list = append(list, api.File{Path: dir + "/x.go", Data: data})
		}
		other := list
		for range 1 + r.Intn(2) {
			f := list[1+r.Intn(8)]
			other = turned(other, f.Path, f.Data+"\n//")
		}
		w := New(nil)
		a, b := commit(t, w, list...), commit(t, w, other...)
		hits, e := w.Analyze(a, b, linux)
		g := plainGraph(t, other, linux)
		if want := plainHits(plainGraph(t, list, linux), g); e != api.OK || !slices.Equal(hits, want) {
			t.Fatalf("%s (error %d), want %s", showHits(hits), e, showHits(want))
		}
		for _, h := range hits {
			row, e := w.Why(a, b, linux, h.Unit)
			if want := plainRow(g, hits, h.Unit); e != api.OK || !slices.Equal(row, want) {
				t.Fatalf("%v (error %d), want %v", row, e, want)
			}
			lengths[len(row)]++
		}
	}
	if lengths[3] < 100 || lengths[4] < 20 {
		t.Errorf("rows' lengths: %v", lengths)
	}
}

// P23.1, P1: from here to there and back the same units are affected.
func TestBack(t *testing.T) {
	r := rand.New(rand.NewSource(2))
	for range 100 {
		w := New(nil)
		a := anyFiles(r)
		i, j := commit(t, w, a...), commit(t, w, change(r, a)...)
		there, _ := w.Analyze(i, j, linux)
		back, _ := w.Analyze(j, i, linux)
		if len(there) != len(back) {
			t.Fatalf("%s and %s", showHits(there), showHits(back))
		}
		for k, h := range there {
			if back[k].Unit != h.Unit || back[k].Reason != []int{0, api.IsGone, api.IsNew, api.IsSelf, api.IsDeep}[h.Reason] || back[k].By != h.By {
				t.Fatalf("%s and %s", showHits(there), showHits(back))
			}
		}
	}
}

// counts checks how much was reckoned.
func counts(t *testing.T, what string, w *World, parsed, loaded int) {
	t.Helper()
	if n, k := w.Counts(); n != parsed || k != loaded {
		t.Errorf("%s: %d parsed, %d loaded, want %d, %d", what, n, k, parsed, loaded)
	}
}

// P23.2, P5: with a cache that takes all, nothing is reckoned twice without need.
func TestCounts(t *testing.T) {
	cache := open(t, disk.New(api.MaxRoom), 4096)
	w := New(cache)
	a := commit(t, w, base...)
	counts(t, "commits", w, 0, 0)
	w.Graph(a, linux)
	counts(t, "first", w, 5, 5) // b/b.go and z/b.go are one
	if n := len(cache.Keys()); n != 10 {
		t.Errorf("%d keys", n)
	}
	w.Graph(a, linux)
	w.Analyze(a, a, linux)
	counts(t, "again", w, 5, 5)
	b := commit(t, w, turned(base, "b/b.go", "package b // x")...)
	w.Analyze(a, b, linux)
	counts(t, "a file", w, 6, 6)
	w.Analyze(a, commit(t, w, turned(base, "a/e", "2", "c/sub/x.txt", "")...), linux)
	counts(t, "files below", w, 6, 8)
	w.Analyze(a, commit(t, w, turned(base, "x.txt", "", "y/x.txt", "")...), linux)
	counts(t, "files elsewhere", w, 6, 8)
	w.Graph(commit(t, w, turned(base, "go.mod", "module n")...), linux)
	counts(t, "a go.mod", w, 6, 13)
	w.Graph(commit(t, w, turned(base, "testdata/x.go", "package x")...), linux)
	counts(t, "a directory with files of the language", w, 6, 18)
	w.Graph(a, api.Config{OS: "windows"})
	counts(t, "a platform", w, 6, 23)
	other := New(cache)
	other.Analyze(commit(t, other, base...), commit(t, other, turned(base, "b/b.go", "package b // x")...), linux)
	counts(t, "another world", other, 0, 0)
	cache.Evict(api.MaxKeep)
	w.Graph(a, linux)
	counts(t, "evicted", w, 11, 28)
	w.Use(nil)
	w.Graph(a, linux)
	counts(t, "without a cache", w, 16, 33)
	w.Use(cache)
	w.Graph(a, linux)
	counts(t, "with it", w, 16, 33)
	bare := New(nil)
	bare.Graph(commit(t, bare, base...), linux)
	counts(t, "without a cache", bare, 5, 5)
}

// P23.2: other files in a directory change nothing for those that lie elsewhere, wherever they stand among the files.
func TestNested(t *testing.T) {
	w := New(open(t, disk.New(api.MaxRoom), 4096))
	list := files("go.mod", "module m", "a/b.go", "package b", "a/m/x.go", "package x", "c/c.go", "package c")
	w.Graph(commit(t, w, list...), linux)
	counts(t, "first", w, 3, 3)
	w.Graph(commit(t, w, turned(list, "a/z.txt", "", "a/a", "")...), linux)
	counts(t, "files about a directory", w, 3, 4)
	w.Graph(commit(t, w, turned(list, "c/a/z.txt", "", "d/x.txt", "")...), linux)
	counts(t, "directories without files of the language", w, 3, 5)
}

// P23.2: each platform has packages of its own; headers are for all.
func TestPlatforms(t *testing.T) {
	w := New(open(t, disk.New(api.MaxRoom), 4096))
	a := commit(t, w, base...)
	n := 0
	for _, c := range []api.Config{{}, {OS: "x"}, {Arch: "x"}, {Cgo: true}, {Level: 1}, {Tags: []string{"x"}}, {Tags: []string{"x", ""}}, {Tags: []string{"y"}}, {OS: "x", Arch: "x"}} {
		n += 5
		w.Graph(a, c)
		w.Graph(a, c)
		counts(t, fmt.Sprintf("%+v", c), w, 5, n)
	}
}

// P23.2: in any history, each file's bytes are parsed once, and packages are loaded again only with need.
func TestAnyCounts(t *testing.T) {
	r := rand.New(rand.NewSource(3))
	for range 60 {
		w := New(open(t, disk.New(api.MaxRoom), 4096))
		parsed, loaded := map[string]bool{}, map[string]bool{}
		list := anyFiles(r)
		for range 8 {
			list = change(r, list)
			w.Graph(commit(t, w, list...), linux)
			slices.SortFunc(list, func(a, b api.File) int { return path.Compare(a.Path, b.Path) })
			var mods, dirs []string
			for _, f := range list {
				if path.Base(f.Path) == "go.mod" {
					mods = append(mods, f.Path, f.Data)
				}
				if suffix.Of(path.Base(f.Path)).Go {
					parsed[f.Data] = true
					dirs = append(dirs, path.Dir(f.Path))
				}
			}
			dirs = slices.Compact(dirs)
			for _, dir := range dirs {
				var below []string
				for _, f := range list {
					if _, ok := path.Under(dir, f.Path); ok {
						below = append(below, f.Path, f.Data)
					}
				}
				loaded[fmt.Sprintf("%q %q %q %q", dir, mods, dirs, below)] = true
			}
			counts(t, "history", w, len(parsed), len(loaded))
		}
	}
}

// P23.1: what the cache refuses isn't kept; without power it isn't used any more.
func TestRefused(t *testing.T) {
	full := New(open(t, disk.New(0), 10))
	a := commit(t, full, base...)
	full.Graph(a, linux)
	full.Graph(a, linux)
	counts(t, "full", full, 10, 10)
	big := "package p\n" + strings.Repeat("import \"fmt\"\n", 2400)
	w := New(open(t, disk.New(api.MaxRoom), 10))
	b := commit(t, w, files("a/a.go", big)...)
	w.Graph(b, linux)
	w.Graph(b, linux)
	counts(t, "a header that is too long", w, 1, 1)
	d := disk.New(api.MaxRoom)
	down := New(open(t, d, 4096))
	c := commit(t, down, base...)
	down.Graph(c, linux)
	counts(t, "with power", down, 5, 5)
	d.Arm(1, 0, false)
	down.Graph(c, api.Config{OS: "windows"})
	counts(t, "the power goes", down, 5+4, 10)
	d.On()
	down.Graph(c, linux)
	counts(t, "behind that", down, 14, 15)
}

// P23.1: headers and parts are read back from their texts; other texts are none.
func TestTexts(t *testing.T) {
	for _, h := range []api.Header{
		{}, {Name: "p", Build: "x", Embeds: []string{"a", ""}, Imports: []api.Import{{Name: ".", Path: "x", At: 3}, {Path: "y"}}}, {Fault: 3, At: 7},
	} {
		s := headerText(h)
		got, ok := readHeader(s)
		if !ok || headerText(got) != s || got.Name != h.Name || got.Build != h.Build || got.Fault != h.Fault || got.At != h.At || !slices.Equal(got.Imports, h.Imports) || !slices.Equal(got.Embeds, h.Embeds) {
			t.Errorf("%+v: %+v, %v", h, got, ok)
		}
		for i := range s {
			if _, ok := readHeader(s[:i]); ok {
				t.Errorf("%+v: cut at %d", h, i)
			}
		}
	}
	h := api.Header{Name: "p", Embeds: []string{"e"}, Imports: []api.Import{{Name: "n", Path: "x", At: 3}, {Path: "y"}}}
	for most := range firstFields + 2*importFields {
		n := 0
		for range fields(h) { // a way that is left early comes to an end
			if n++; n > most {
				break
			}
		}
	}
	num, none := code.Num(1), code.Join()
	for _, s := range []string{
		"", "x", none, code.Join("n", "b", num, num), code.Join("n", "b", "1", num, none), code.Join("n", "b", num, "1", none), code.Join("n", "b", num, num, "x"), code.Join("n", "b", num, num, none, "i", "p"),
		code.Join("n", "b", num, num, none, "i", "p", "1"), code.Join("n", "b", num, num, none, "i", "p", num, "x"),
	} {
		if h, ok := readHeader(s); ok || h.Name != "" {
			t.Errorf("%q is no header's text", s)
		}
	}
	for _, s := range []string{"", "x", none + "x", code.Join("x"), code.Join(load.Text(api.Part{}), "")} {
		if parts, ok := readParts(s); ok || len(parts) != 0 {
			t.Errorf("%q is no parts' text", s)
		}
	}
}
