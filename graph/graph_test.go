package graph

import (
	"fmt"
	"math/rand"
	"reflect"
	"slices"
	"strings"
	"testing"

	"seiche/api"
	"seiche/code"
	"seiche/load"
	"seiche/path"
	"seiche/sha"
)

// unit is a directory and a kind: a:1.
func unit(s string) api.Unit {
	dir, kind, _ := strings.Cut(s, ":")
	return api.Unit{Dir: dir, Kind: int(kind[0] - '0')}
}

// part is the part of a unit that imports directories of the tree.
func part(u string, dirs ...string) api.Part {
	p := api.Part{Unit: unit(u), Name: "p", Files: []api.Input{{Path: "f"}}}
	for _, dir := range dirs {
		p.Deps = append(p.Deps, api.Dep{Path: "m/" + dir, Place: api.Place{Kind: api.InTree, Dir: dir}})
	}
	return p
}

// show is units as one text.
func show(list []api.Unit) string {
	var out []string
	for _, u := range list {
		out = append(out, fmt.Sprintf("%s:%d", u.Dir, u.Kind))
	}
	return strings.Join(out, " ")
}

// rows is groups as one text.
func rows(groups [][]api.Unit) string {
	var out []string
	for _, x := range groups {
		out = append(out, show(x))
	}
	return strings.Join(out, ", ")
}

// leans is on which units a unit leans, as one text; - if it isn't there.
func leans(g *Graph, u string) string {
	n, ok := g.Node(unit(u))
	if !ok {
		return "-"
	}
	return show(n.Leans)
}

// P22.1: the order of units.
func TestCompare(t *testing.T) {
	row := []string{":1", ":2", ":3", "a:1", "a:3", "a/b:1", "a/b:2", "a!:1", "a!:2", "b:1"}
	for i, a := range row {
		for j, b := range row {
			if got := Compare(unit(a), unit(b)); (got < 0) != (i < j) || (got > 0) != (i > j) {
				t.Errorf("%s, %s: %d", a, b, got)
			}
		}
	}
}

// P22.1: units in order, and on which they lean.
func TestLeans(t *testing.T) {
	other := part("o:1", "b")
	for i := range 6 {
		other.Deps = append(other.Deps, api.Dep{Path: "x", Place: api.Place{Kind: i, Dir: []string{"a", "b", "a!", "a", "a", "a"}[i]}})
	}
	g := New(part("b:1", "a/c", "a", "a!", "a", "none"), part("a:3", "a", "b"), part("a:2", "a"), part("a:1", "a", ""), part("a!:1"), part("a/c:1"), part("b:3", "b"), part("c:3", "c", "a"), part(":1"), part("d:2", "d"), part("b:2", "a", "b"), part("e:3", "e"), part("e:1"), part("f:2"), part("f:3", "f"), part("g:1", "c", "f"), other)
	if got := show(g.Units()); got != ":1 a:1 a:2 a:3 a/c:1 a!:1 b:1 b:2 b:3 c:3 d:2 e:1 e:3 f:2 f:3 g:1 o:1" {
		t.Error(got)
	}
	for u, want := range map[string]string{
		"b:1": "a:1 a/c:1 a!:1", "a:1": ":1 a:1", "a:2": "a:1", "a:3": "a:2 b:1", "b:3": "b:2", "b:2": "a:1 b:1", "c:3": "a:1", "d:2": "", "e:3": "e:1", "f:3": "f:2", "f:2": "", "g:1": "", "o:1": "b:1", "x:1": "-", "c:1": "-", "a:0": "-",
	} {
		if got := leans(g, u); got != want {
			t.Errorf("%s leans on %q, want %q", u, got, want)
		}
	}
	n, _ := g.Node(unit("o:1"))
	if !reflect.DeepEqual(n.Part, other) {
		t.Errorf("%+v", n.Part)
	}
}

// P22.1: groups, and their order.
func TestGroups(t *testing.T) {
	for _, x := range []struct {
		want  string
		parts []api.Part
	}{
		{"", nil},
		{"a:1", []api.Part{part("a:1", "a")}},
		{"a:1 b:1, c:1", []api.Part{part("c:1", "a"), part("b:1", "a"), part("a:1", "b")}},
		{"b:1, a:1, c:1", []api.Part{part("a:1", "b"), part("b:1"), part("c:1", "b")}},
		{"c:1, b:1, a:1", []api.Part{part("a:1", "b"), part("b:1", "c"), part("c:1")}},
		{"b:1, d:1, a:1, c:1", []api.Part{part("a:1", "d"), part("b:1"), part("c:1", "a", "b"), part("d:1")}},
		{"z:1, a:1 y:1, b:1", []api.Part{part("a:1", "y", "z"), part("y:1", "a"), part("z:1"), part("b:1", "y")}},
		{"a:1, a:2, a:3", []api.Part{part("a:3", "a"), part("a:2", "a"), part("a:1")}},
		{"a:1 c:1, a:2, a:3, b:1", []api.Part{part("a:3", "a"), part("a:2", "c"), part("a:1", "c"), part("c:1", "a"), part("b:1")}},
	} {
		if got := rows(New(x.parts...).Groups()); got != x.want {
			t.Errorf("%s, want %s", got, x.want)
		}
	}
}

// P22.1: sums, reckoned by hand.
func TestSums(t *testing.T) {
	a, b, c := part("a:1", "b"), part("b:1", "a", "d"), part("c:3", "a", "b", "d")
	d := part("d:1")
	g := New(a, b, c, d)
	num := code.Num
	text := func(id api.Id) string { return string(id[:]) }
	gd := sha.Sum("group", code.Join(load.Text(d)))
	gab := sha.Sum("group", code.Join(load.Text(a), "b", num(1)), code.Join(load.Text(b), "a", num(1), "d", num(1)), text(gd))
	gc := sha.Sum("group", code.Join(load.Text(c), "a", num(1), "b", num(1), "d", num(1)), text(gab), text(gab), text(gd))
	for u, want := range map[string]api.Id{
		"a:1": sha.Sum("unit", "a", num(1), text(gab)), "b:1": sha.Sum("unit", "b", num(1), text(gab)), "c:3": sha.Sum("unit", "c", num(3), text(gc)), "d:1": sha.Sum("unit", "d", num(1), text(gd)),
	} {
		if got, ok := g.Sum(unit(u)); got != want || !ok {
			t.Errorf("%s: another sum", u)
		}
	}
	if got, ok := g.Sum(unit("a:2")); got != (api.Id{}) || ok {
		t.Error("a unit that isn't there")
	}
}

// P22.1: what a nil graph answers.
func TestNil(t *testing.T) {
	var g *Graph
	_, ok1 := g.Node(api.Unit{})
	_, ok2 := g.Sum(api.Unit{})
	if ok1 || ok2 || len(g.Units()) != 0 || len(g.Groups()) != 0 {
		t.Error("a nil graph has units")
	}
}

// P22.1: what is handed in isn't kept, what is answered is new; a unit twice comes to an end.
func TestLists(t *testing.T) {
	a, b := part("a:1", "b"), part("b:1")
	a.Embeds = []api.Input{{Path: "e"}}
	g := New(a, b)
	sum, _ := g.Sum(unit("a:1"))
	a.Files[0].Path, a.Embeds[0].Path, a.Deps[0].Path = "x", "x", "x"
	for range 2 {
		n, _ := g.Node(unit("a:1"))
		if n.Part.Files[0].Path != "f" || n.Part.Embeds[0].Path != "e" || n.Part.Deps[0].Path != "m/b" || show(n.Leans) != "b:1" {
			t.Errorf("%+v", n)
		}
		n.Part.Files[0].Path, n.Part.Embeds[0].Path, n.Part.Deps[0].Path, n.Leans[0].Dir = "y", "y", "y", "y"
		g.Units()[0].Dir = "z"
		g.Groups()[0][0].Dir = "z"
		if again, _ := g.Sum(unit("a:1")); again != sum || show(g.Units()) != "a:1 b:1" || rows(g.Groups()) != "b:1, a:1" {
			t.Error("an answer is shared")
		}
	}
	New(part("a:1", "a"), part("a:1", "b"), part("b:1", "a"), part("b:1"))
}

// reach is on which units each unit leans, over others, too.
func reach(g *Graph) map[api.Unit]map[api.Unit]bool {
	out := map[api.Unit]map[api.Unit]bool{}
	for _, u := range g.Units() {
		out[u] = map[api.Unit]bool{}
		row := []api.Unit{u}
		for len(row) > 0 {
			n, _ := g.Node(row[0])
			row = row[1:]
			for _, v := range n.Leans {
				if !out[u][v] {
					out[u][v] = true
					row = append(row, v)
				}
			}
		}
	}
	return out
}

// anyParts are parts by chance.
func anyParts(r *rand.Rand, most int) []api.Part {
	dirs := strings.Split("abcdefgh"[:1+r.Intn(most)], "")
	var parts []api.Part
	for _, dir := range dirs {
		for kind := 1; kind <= 3; kind++ {
			if r.Intn(3) == 0 {
				continue
			}
			p := part(fmt.Sprintf("%s:%d", dir, kind))
			for range r.Intn(3) {
				p.Deps = append(p.Deps, part("x:1", dirs[r.Intn(len(dirs))]).Deps...)
			}
			p.Files[0].Id = api.Id{byte(r.Intn(2))}
			parts = append(parts, p)
		}
	}
	r.Shuffle(len(parts), func(i, j int) { parts[i], parts[j] = parts[j], parts[i] })
	return parts
}

// P22.1: groups of any graph, and their order, against the plain words.
func TestAnyGroups(t *testing.T) {
	r := rand.New(rand.NewSource(1))
	for range 3000 {
		g := New(anyParts(r, 6)...)
		far := reach(g)
		left := g.Units()
		var want []string
		done := map[api.Unit]bool{}
		for len(left) > 0 {
			for _, u := range left {
				var group, rest []api.Unit
				for _, v := range left {
					if v == u || far[u][v] && far[v][u] {
						group = append(group, v)
					} else {
						rest = append(rest, v)
					}
				}
				next := true
				for _, v := range group {
					for w := range far[v] {
						next = next && (done[w] || slices.Contains(group, w))
					}
				}
				if next {
					want = append(want, show(group))
					for _, v := range group {
						done[v] = true
					}
					left = rest
					break
				}
			}
		}
		if got := rows(g.Groups()); got != strings.Join(want, ", ") {
			t.Fatalf("%s, want %s", got, strings.Join(want, ", "))
		}
	}
}

// P22.2: a unit has one sum in two graphs just if all that it leans on is the same.
func TestSameSums(t *testing.T) {
	r := rand.New(rand.NewSource(2))
	equal, unlike := 0, 0
	for range 4000 {
		parts := anyParts(r, 4)
		other := slices.Clone(parts)
		r.Shuffle(len(other), func(i, j int) { other[i], other[j] = other[j], other[i] })
		if len(other) > 0 {
			i := r.Intn(len(other))
			switch r.Intn(4) {
			case 0:
				other = slices.Delete(other, i, i+1)
			case 1:
				other[i].Name = "q"
			case 2:
				other[i].Deps = part("x:1", "a").Deps
			}
		}
		one, two := New(parts...), New(other...)
		f1, f2 := reach(one), reach(two)
		for _, u := range one.Units() {
			s1, _ := one.Sum(u)
			s2, ok := two.Sum(u)
			if !ok {
				continue
			}
			same := reflect.DeepEqual(f1[u], f2[u])
			f1[u][u] = true
			for v := range f1[u] {
				n1, _ := one.Node(v)
				n2, ok := two.Node(v)
				same = same && ok && load.Text(n1.Part) == load.Text(n2.Part) && slices.Equal(n1.Leans, n2.Leans)
			}
			if same {
				equal++
			} else {
				unlike++
			}
			if same != (s1 == s2) {
				t.Fatalf("%v: the same %v, one sum %v", u, same, s1 == s2)
			}
		}
	}
	if equal < 1000 || unlike < 1000 {
		t.Errorf("%d the same, %d not", equal, unlike)
	}
}

// P22.1: long rows, and wide groups, come to an end.
func TestLong(t *testing.T) {
	const n = 20000
	var row, ring []api.Part
	for i := range n {
		dir := fmt.Sprintf("d%05d", i)
		row = append(row, part(dir+":1", fmt.Sprintf("d%05d", i+1)))
		ring = append(ring, part(dir+":1", fmt.Sprintf("d%05d", (i+1)%n)))
	}
	g := New(row...)
	if got := g.Groups(); len(got) != n || got[0][0].Dir != "d19999" {
		t.Errorf("%d groups", len(got))
	}
	if got := New(ring...).Groups(); len(got) != 1 || len(got[0]) != n || !slices.IsSortedFunc(got[0], func(a, b api.Unit) int { return path.Compare(a.Dir, b.Dir) }) {
		t.Errorf("%d groups", len(got))
	}
}
