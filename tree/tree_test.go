package tree

import (
	"fmt"
	"math/rand"
	"slices"
	"strings"
	"testing"

	"seiche/api"
	"seiche/object"
	"seiche/path"
)

// want checks a call's error.
func want(t *testing.T, what string, got, e api.Errno) {
	t.Helper()
	if got != e {
		t.Errorf("%s: error %d, want %d", what, got, e)
	}
}

// files are files of paths and data, one behind the other.
func files(list ...string) []api.File {
	var out []api.File
	for i := 0; i < len(list); i += 2 {
		out = append(out, api.File{Path: list[i], Data: list[i+1]})
	}
	return out
}

// many are so many files.
func many(n int) []api.File {
	out := make([]api.File, n)
	for i := range out {
		out[i].Path = fmt.Sprintf("d%d/f%d", i%7, i)
	}
	return out
}

// P8.1: what is put is there, by its name, of its kind alone.
func TestPut(t *testing.T) {
	s := New()
	b, e := s.PutBlob("data")
	want(t, "blob", e, api.OK)
	entries := []api.Entry{{Name: "a", Id: b}, {Name: "b", Tree: true, Id: api.Id{7}}}
	r, e := s.PutTree(entries...)
	want(t, "tree", e, api.OK)
	parents := []api.Id{{1}, {2}}
	c, e := s.PutCommit(api.Commit{Root: r, Note: "n", Parents: parents})
	want(t, "commit", e, api.OK)
	text, _ := object.PutTree(entries...)
	line, _ := object.PutCommit(api.Commit{Root: r, Note: "n", Parents: parents})
	if b != object.Blob("data") || r != object.TreeName(text) || c != object.CommitName(line) || s.Size() != 3 {
		t.Error("names")
	}
	entries[0].Name, parents[0] = "x", api.Id{9}
	for range 2 { // what was answered is turned, too: it is new each time
		data, e1 := s.Blob(b)
		list, e2 := s.Tree(r)
		commit, e3 := s.Commit(c)
		if e1 != api.OK || e2 != api.OK || e3 != api.OK || data != "data" || len(list) != 2 || list[0] != (api.Entry{Name: "a", Id: b}) || !list[1].Tree ||
			commit.Root != r || commit.Note != "n" || !slices.Equal(commit.Parents, []api.Id{{1}, {2}}) {
			t.Errorf("%q, %v, %v", data, list, commit)
		}
		list[0].Name, commit.Parents[0] = "y", api.Id{8}
	}
	s.PutBlob("data")
	s.PutTree(api.Entry{Name: "a", Id: b}, api.Entry{Name: "b", Tree: true, Id: api.Id{7}})
	if s.Size() != 3 {
		t.Errorf("%d things, each put twice", s.Size())
	}
	for _, id := range []api.Id{{}, b, r, c} {
		_, e1 := s.Blob(id)
		_, e2 := s.Tree(id)
		_, e3 := s.Commit(id)
		for i, e := range []api.Errno{e1, e2, e3} {
			if there := id == []api.Id{b, r, c}[i]; (e == api.OK) != there || !there && e != api.ErrNone {
				t.Errorf("kind %d: error %d", i, e)
			}
		}
	}
}

// P8.1: what can't be put.
func TestRefused(t *testing.T) {
	s := New()
	_, e := s.PutBlob(strings.Repeat("x", api.MaxFile+1))
	want(t, "blob", e, api.ErrLong)
	_, e = s.PutTree(api.Entry{Name: "b"}, api.Entry{Name: "a"})
	want(t, "tree", e, api.ErrArg)
	_, e = s.PutCommit(api.Commit{Note: strings.Repeat("n", 65)})
	want(t, "commit", e, api.ErrArg)
	if s.Size() != 0 {
		t.Errorf("%d things", s.Size())
	}
	_, e = s.PutBlob(strings.Repeat("x", api.MaxFile))
	want(t, "blob", e, api.OK)
}

// P8.1: what a nil store answers.
func TestNil(t *testing.T) {
	var s *Store
	_, e1 := s.PutBlob(strings.Repeat("x", api.MaxFile+1))
	_, e2 := s.PutTree(api.Entry{})
	_, e3 := s.PutCommit(api.Commit{Parents: make([]api.Id, 3)})
	_, e4 := s.Blob(api.Id{})
	_, e5 := s.Tree(api.Id{})
	_, e6 := s.Commit(api.Id{})
	_, e7 := s.Build(many(513)...)
	_, e8 := s.Files(api.Id{})
	for _, e := range []api.Errno{e1, e2, e3, e4, e5, e6, e7, e8} {
		want(t, "nil", e, api.ErrNil)
	}
	if s.Size() != 0 {
		t.Error("a nil store has something")
	}
}

// P8.1: the tree that is built.
func TestBuild(t *testing.T) {
	s := New()
	empty, e := s.Build()
	want(t, "no files", e, api.OK)
	if empty != object.TreeName(strings.Repeat("\x00", 8)) || s.Size() != 1 {
		t.Error("the tree without entries")
	}
	list := files("b/x", "1", "a", "2", "b/c/y", "1", "b!", "", "b/c!", "3")
	copied := slices.Clone(list)
	root, e := s.Build(list...)
	want(t, "build", e, api.OK)
	if !slices.Equal(list, copied) {
		t.Error("the files handed in were put in order")
	}
	x := New()
	one, _ := x.PutBlob("1")
	two, _ := x.PutBlob("2")
	three, _ := x.PutBlob("3")
	none, _ := x.PutBlob("")
	c, _ := x.PutTree(api.Entry{Name: "y", Id: one})
	b, _ := x.PutTree(api.Entry{Name: "c", Tree: true, Id: c}, api.Entry{Name: "c!", Id: three}, api.Entry{Name: "x", Id: one})
	r, _ := x.PutTree(api.Entry{Name: "a", Id: two}, api.Entry{Name: "b", Tree: true, Id: b}, api.Entry{Name: "b!", Id: none})
	if root != r || s.Size() != 1+x.Size() {
		t.Errorf("%d and %d things", s.Size(), x.Size())
	}
	got, e := s.Files(root)
	if e != api.OK || !slices.Equal(got, []api.Input{{Path: "a", Id: two}, {Path: "b/c/y", Id: one}, {Path: "b/c!", Id: three}, {Path: "b/x", Id: one}, {Path: "b!", Id: none}}) {
		t.Errorf("%v, %d", got, e)
	}
}

// P8.1: files of which no tree is built, in the errors' order; then nothing is there.
func TestBuildErrors(t *testing.T) {
	long := strings.Repeat("x", api.MaxFile+1)
	for _, x := range []struct {
		files []api.File
		e     api.Errno
	}{
		{append(many(512), api.File{Path: ".."}), api.ErrLong}, {many(512), api.OK}, {files("", "1"), api.ErrArg}, {files("a", "1", "a/", "1"), api.ErrArg},
		{files("a", "1", "..", long), api.ErrArg}, {files("a", long, "b", "1", "a", "2"), api.ErrArg}, {files("a", "1", "a", "1"), api.ErrArg},
		{files("a/b", "1", "a.b", "2", "a", "3"), api.ErrArg}, {files("a/b/c/d", "1", "a/b", "2"), api.ErrArg}, {files("a", "1", "b", long), api.ErrLong},
		{files("a", long[1:]), api.OK}, {files("a", "1", "ab", "2", "a!", "3"), api.OK},
		{files(strings.Repeat("a/", 15)+"a", "1"), api.OK}, {files(strings.Repeat("a/", 16)+"a", "1"), api.ErrArg},
	} {
		s := New()
		id, e := s.Build(x.files...)
		want(t, fmt.Sprintf("%d files", len(x.files)), e, x.e)
		if e != api.OK && (s.Size() != 0 || id != api.Id{}) {
			t.Errorf("%d things beside an error", s.Size())
		}
	}
}

// nest puts a tree into n others, one within another.
func nest(s *Store, id api.Id, n int) api.Id {
	for range n {
		id, _ = s.PutTree(api.Entry{Name: "d", Tree: true, Id: id})
	}
	return id
}

// P8.1: trees that can't be gone through.
func TestFilesErrors(t *testing.T) {
	s := New()
	leaf, _ := s.PutTree(api.Entry{Name: "f", Id: api.Id{1}})
	_, e := s.Files(api.Id{})
	want(t, "no root", e, api.ErrNone)
	list, e := s.Files(nest(s, leaf, 15))
	if e != api.OK || len(list) != 1 || len(path.Split(list[0].Path)) != 16 {
		t.Errorf("16 parts: %v, %d", list, e)
	}
	_, e = s.Files(nest(s, leaf, 16))
	want(t, "17 parts", e, api.ErrDeep)
	_, e = s.Files(nest(s, api.Id{}, 16))
	want(t, "17 parts, not there", e, api.ErrDeep)
	_, e = s.Files(nest(s, api.Id{}, 15))
	want(t, "not there", e, api.ErrNone)
	deep := nest(s, leaf, 15)
	for _, x := range []struct {
		a, b api.Id
		e    api.Errno
	}{{deep, api.Id{}, api.ErrDeep}, {api.Id{}, deep, api.ErrNone}, {leaf, deep, api.ErrDeep}} {
		root, _ := s.PutTree(api.Entry{Name: "a", Tree: true, Id: x.a}, api.Entry{Name: "b", Tree: true, Id: x.b})
		list, e := s.Files(root)
		want(t, "the first error", e, x.e)
		if len(list) != 0 {
			t.Error("files beside an error")
		}
	}
}

// P8.1: as many entries as are gone through at most.
func TestFilesLong(t *testing.T) {
	s := New()
	entries := func(n int, tree bool, id api.Id) []api.Entry {
		list := make([]api.Entry, n)
		for i := range list {
			list[i] = api.Entry{Name: fmt.Sprintf("%03d", i), Tree: tree, Id: id}
		}
		return list
	}
	wide, _ := s.PutTree(entries(511, false, api.Id{1})...)
	seven, _ := s.PutTree(entries(8, true, wide)...)
	if list, e := s.Files(seven); e != api.OK || len(list) != 8*511 {
		t.Errorf("4096 entries: %d, %d", len(list), e)
	}
	more, _ := s.PutTree(append(entries(8, true, wide), api.Entry{Name: "x", Id: api.Id{1}})...)
	_, e := s.Files(more)
	want(t, "4097 entries", e, api.ErrLong)
	none, _ := s.PutTree(append(entries(9, true, wide), api.Entry{Name: "x", Tree: true})...)
	_, e = s.Files(none)
	want(t, "too many ahead of one that isn't there", e, api.ErrLong)
	empty, _ := s.PutTree()
	two, _ := s.PutTree(entries(400, true, empty)...)
	all, _ := s.PutTree(entries(400, true, two)...)
	_, e = s.Files(all)
	want(t, "trees alone", e, api.ErrLong)
}

// P8.2, P8.3: the files of a tree that was built are the files; other files, another tree.
func TestThereAndBack(t *testing.T) {
	r := rand.New(rand.NewSource(1))
	seen := map[api.Id]string{}
	for range 2000 {
		var list []api.File
		for _, p := range []string{"a", "b/a", "b/c/d", "b.c", "b!/x", "c", "c!"} {
			if r.Intn(3) > 0 {
				list = append(list, api.File{Path: p, Data: strings.Repeat("x", r.Intn(2))})
			}
		}
		s := New()
		r.Shuffle(len(list), func(i, j int) { list[i], list[j] = list[j], list[i] })
		root, e := s.Build(list...)
		got, e2 := s.Files(root)
		if e != api.OK || e2 != api.OK || len(got) != len(list) {
			t.Fatalf("%v: %v, %d, %d", list, got, e, e2)
		}
		slices.SortFunc(list, func(a, b api.File) int { return path.Compare(a.Path, b.Path) })
		for i, x := range got {
			if data, e := s.Blob(x.Id); e != api.OK || x.Path != list[i].Path || data != list[i].Data {
				t.Fatalf("%v: %v", list, got)
			}
		}
		if elder, ok := seen[root]; ok && elder != fmt.Sprint(list) {
			t.Fatalf("%s and %v have one tree", elder, list)
		}
		seen[root] = fmt.Sprint(list)
		got = append(got[:0], api.Input{Path: "x"})
		if again, _ := s.Files(root); len(again) > 0 && again[0].Path == "x" {
			t.Fatal("two answers share a list")
		}
	}
	if len(seen) < 100 {
		t.Errorf("%d trees", len(seen))
	}
}
