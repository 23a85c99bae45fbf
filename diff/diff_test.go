package diff

import (
	"math/rand"
	"slices"
	"testing"

	"seiche/api"
	"seiche/path"
	"seiche/tree"
)

// inputs are files of paths, each with a digest that begins with the byte behind.
func inputs(list ...any) []api.Input {
	var out []api.Input
	for i := 0; i < len(list); i += 2 {
		out = append(out, api.Input{Path: list[i].(string), Id: api.Id{byte(list[i+1].(int))}})
	}
	return out
}

// P9.1: the changes from one list to another one, in the paths' order.
func TestLists(t *testing.T) {
	for _, x := range []struct {
		a, b []api.Input
		want []api.Change
	}{
		{nil, nil, nil},
		{inputs("a", 1), inputs("a", 1), nil},
		{inputs("a", 1), inputs("b", 1), []api.Change{{Path: "a", Kind: api.Removed}, {Path: "b", Kind: api.Added}}},
		{inputs("b", 1), inputs("a", 1), []api.Change{{Path: "a", Kind: api.Added}, {Path: "b", Kind: api.Removed}}},
		{inputs("a", 1, "b", 1), nil, []api.Change{{Path: "a", Kind: api.Removed}, {Path: "b", Kind: api.Removed}}},
		{nil, inputs("a/b", 1, "a!", 1), []api.Change{{Path: "a/b", Kind: api.Added}, {Path: "a!", Kind: api.Added}}},
		{inputs("a", 1, "a/b", 1, "c", 1), inputs("a", 2, "a!", 1, "c", 1), []api.Change{{Path: "a", Kind: api.Changed}, {Path: "a/b", Kind: api.Removed}, {Path: "a!", Kind: api.Added}}},
	} {
		if got := Lists(x.a, x.b); !slices.Equal(got, x.want) {
			t.Errorf("%v to %v: %v", x.a, x.b, got)
		}
	}
	a := inputs("a", 1, "b", 2)
	Lists(a, inputs("b", 1))
	if !slices.Equal(a, inputs("a", 1, "b", 2)) {
		t.Error("the list handed in was changed")
	}
	if got := Lists([]api.Input{{Path: "a", Id: api.Id{31: 1}}}, []api.Input{{Path: "a", Id: api.Id{31: 2}}}); len(got) != 1 {
		t.Error("digests that part in their last byte")
	}
}

// P9.1: lists that don't rise come to an end, too.
func TestOtherLists(t *testing.T) {
	l := inputs("b", 1, "a", 1, "a", 2, "", 3)
	Lists(l, l[1:])
	Lists(l[2:], l)
}

// P9.1: trees, and the errors of their stores.
func TestTrees(t *testing.T) {
	s := tree.New()
	a, _ := s.Build(api.File{Path: "x/a", Data: "1"}, api.File{Path: "y", Data: "2"})
	b, _ := s.Build(api.File{Path: "x/a", Data: "3"}, api.File{Path: "z", Data: "2"})
	got, e := Trees(s, a, b)
	if e != api.OK || !slices.Equal(got, []api.Change{{Path: "x/a", Kind: api.Changed}, {Path: "y", Kind: api.Removed}, {Path: "z", Kind: api.Added}}) {
		t.Errorf("%v, %d", got, e)
	}
	deep, _ := s.PutTree(api.Entry{Name: "f"})
	for range 16 {
		deep, _ = s.PutTree(api.Entry{Name: "d", Tree: true, Id: deep})
	}
	for _, x := range []struct {
		s    *tree.Store
		a, b api.Id
		e    api.Errno
	}{{nil, a, b, api.ErrNil}, {s, api.Id{}, deep, api.ErrNone}, {s, deep, api.Id{}, api.ErrDeep}, {s, a, api.Id{}, api.ErrNone}, {s, a, deep, api.ErrDeep}} {
		if got, e := Trees(x.s, x.a, x.b); e != x.e || len(got) != 0 {
			t.Errorf("%v, %d, want %d", got, e, x.e)
		}
	}
}

// P9.1, P9.2: the changes are what a plain look at both lists tells; none just if both are the same; back as there, exchanged.
func TestThereAndBack(t *testing.T) {
	r := rand.New(rand.NewSource(1))
	paths := []string{"a", "a/b", "a/c", "a!", "b", "b/c/d", "c"}
	list := func() []api.Input {
		var out []api.Input
		for _, p := range paths {
			if r.Intn(2) == 0 {
				out = append(out, api.Input{Path: p, Id: api.Id{byte(r.Intn(2))}})
			}
		}
		return out
	}
	slices.SortFunc(paths, path.Compare)
	for range 5000 {
		a, b := list(), list()
		var want, back []api.Change
		for _, p := range paths {
			i := slices.IndexFunc(a, func(x api.Input) bool { return x.Path == p })
			j := slices.IndexFunc(b, func(x api.Input) bool { return x.Path == p })
			switch {
			case i < 0 && j >= 0:
				want, back = append(want, api.Change{Path: p, Kind: api.Added}), append(back, api.Change{Path: p, Kind: api.Removed})
			case i >= 0 && j < 0:
				want, back = append(want, api.Change{Path: p, Kind: api.Removed}), append(back, api.Change{Path: p, Kind: api.Added})
			case i >= 0 && a[i] != b[j]:
				want, back = append(want, api.Change{Path: p, Kind: api.Changed}), append(back, api.Change{Path: p, Kind: api.Changed})
			}
		}
		if !slices.Equal(Lists(a, b), want) || !slices.Equal(Lists(b, a), back) || (len(want) == 0) != slices.Equal(a, b) {
			t.Fatalf("%v to %v: %v", a, b, Lists(a, b))
		}
	}
}
