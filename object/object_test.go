package object

import (
	"fmt"
	"math/rand"
	"slices"
	"strings"
	"testing"

	"seiche/api"
	"seiche/code"
	"seiche/sha"
)

// id is a digest of one byte over and over.
func id(b byte) api.Id {
	var d api.Id
	for i := range d {
		d[i] = b
	}
	return d
}

// text is that as a text.
func text(b byte) string { return strings.Repeat(string([]byte{b}), 32) }

// many are so many entries.
func many(n int) []api.Entry {
	list := make([]api.Entry, n)
	for i := range list {
		list[i].Name = fmt.Sprintf("%03d", i)
	}
	return list
}

// P7.1: names are digests for a purpose.
func TestNames(t *testing.T) {
	for _, s := range []string{"", "abc", strings.Repeat("x", 40000)} {
		if Blob(s) != sha.Sum("blob", s) || TreeName(s) != sha.Sum("tree", s) || CommitName(s) != sha.Sum("commit", s) {
			t.Errorf("of %d bytes", len(s))
		}
	}
}

// P7.1: the bytes of a tree.
func TestPutTree(t *testing.T) {
	if s, e := PutTree(); e != api.OK || s != strings.Repeat("\x00", 8) {
		t.Errorf("%x, %d", s, e)
	}
	s, e := PutTree(api.Entry{Name: "A", Id: id(1)}, api.Entry{Name: "a", Tree: true, Id: id(2)}, api.Entry{Name: "a.b", Id: id(1)})
	if e != api.OK || s != code.Join("blob", "A", text(1), "tree", "a", text(2), "blob", "a.b", text(1)) {
		t.Errorf("%q, %d", s, e)
	}
	if s, e := PutTree(many(512)...); e != api.OK || len(s) != 8+512*(8+4+8+3+8+32) {
		t.Errorf("%d bytes, error %d", len(s), e)
	}
}

// P7.1: entries that can be no tree.
func TestBadTree(t *testing.T) {
	for _, list := range [][]api.Entry{
		{{Name: ""}}, {{Name: "."}}, {{Name: ".."}}, {{Name: "a/b"}}, {{Name: "/"}}, {{Name: "a\x00"}}, {{Name: strings.Repeat("x", 129)}},
		{{Name: "b"}, {Name: "a"}}, {{Name: "a"}, {Name: "a"}}, {{Name: "a"}, {Name: "a", Tree: true}}, {{Name: "a"}, {Name: "c"}, {Name: "b"}}, many(513),
	} {
		if GoodTree(list...) {
			t.Errorf("%d entries, %q ..", len(list), list[0].Name)
		}
		if s, e := PutTree(list...); e != api.ErrArg || s != "" {
			t.Errorf("%q, %d", s, e)
		}
	}
	for _, list := range [][]api.Entry{nil, many(512), {{Name: strings.Repeat("x", 128)}}, {{Name: "a"}, {Name: "a!"}, {Name: "a.b", Tree: true}, {Name: "ab"}, {Name: "\xff"}}} {
		if !GoodTree(list...) {
			t.Errorf("%d entries", len(list))
		}
	}
}

// P7.1: bytes that no tree has.
func TestGetTreeForm(t *testing.T) {
	for _, s := range []string{
		"", "x", code.Join("blob"), code.Join("blob", "a"), code.Join("blob", "a", text(1)[1:]), code.Join("blob", "a", text(1)+"x"), code.Join("Blob", "a", text(1)),
		code.Join("", "a", text(1)), code.Join("commit", "a", text(1)), code.Join("blob", "a/b", text(1)), code.Join("blob", "", text(1)), code.Join("blob", "a", text(1)) + "x",
		code.Join("blob", "b", text(1), "blob", "a", text(1)), code.Join("blob", "a", text(1), "tree", "a", text(1)), code.Join("blob", "a", text(1), "blob"),
		strings.Repeat("x", api.MaxText+1),
	} {
		if list, e := GetTree(s); e != api.ErrForm || len(list) != 0 {
			t.Errorf("%.50q: %v, %d", s, list, e)
		}
	}
	parts := []string{}
	for _, x := range many(513) {
		parts = append(parts, "blob", x.Name, text(0))
	}
	if _, e := GetTree(code.Join(parts...)); e != api.ErrForm {
		t.Errorf("513 entries: %d", e)
	}
	if list, e := GetTree(code.Join(parts[3:]...)); e != api.OK || len(list) != 512 {
		t.Errorf("512 entries: %d", e)
	}
}

// P7.1: the bytes of a commit, and what can be none.
func TestCommit(t *testing.T) {
	for _, x := range []struct {
		c    api.Commit
		want string
	}{
		{api.Commit{}, code.Join("", text(0))},
		{api.Commit{Root: id(1), Note: "n"}, code.Join("n", text(1))},
		{api.Commit{Root: id(1), Note: strings.Repeat("n", 64), Parents: []api.Id{id(2), id(2)}}, code.Join(strings.Repeat("n", 64), text(1), text(2), text(2))},
		{api.Commit{Root: id(1), Note: strings.Repeat("n", 65)}, ""},
		{api.Commit{Root: id(1), Parents: make([]api.Id, 3)}, ""},
	} {
		s, e := PutCommit(x.c)
		if s != x.want || (e == api.OK) != (x.want != "") || e != api.OK && e != api.ErrArg || GoodCommit(x.c) != (e == api.OK) {
			t.Errorf("%q, %d", s, e)
		}
	}
	for _, s := range []string{
		"", "x", code.Join(), code.Join("n"), code.Join("n", text(1)[1:]), code.Join("n", text(1)+"x"), code.Join("n", text(1), "x"), code.Join(strings.Repeat("n", 65), text(1)),
		code.Join("n", text(1), text(1), text(1), text(1)), code.Join("n", text(1)) + "x", strings.Repeat("x", api.MaxText+1),
	} {
		if c, e := GetCommit(s); e != api.ErrForm || c.Note != "" || c.Root != (api.Id{}) || len(c.Parents) != 0 {
			t.Errorf("%.50q: %v, %d", s, c, e)
		}
	}
}

// P7.2, P7.3: there and back, and names apart.
func TestThereAndBack(t *testing.T) {
	r := rand.New(rand.NewSource(1))
	trees, commits := map[api.Id]string{}, map[api.Id]string{}
	for range 2000 {
		var list []api.Entry
		for _, n := range []string{"a", "b", "b!", "c"} {
			if r.Intn(2) == 0 {
				list = append(list, api.Entry{Name: n, Tree: r.Intn(2) == 0, Id: id(byte(r.Intn(2)))})
			}
		}
		s, _ := PutTree(list...)
		if got, e := GetTree(s); e != api.OK || !slices.Equal(got, list) {
			t.Fatalf("%v: %v, %d", list, got, e)
		}
		c := api.Commit{Root: id(byte(r.Intn(3))), Note: strings.Repeat("n", r.Intn(3)), Parents: make([]api.Id, r.Intn(3))}
		p, _ := PutCommit(c)
		if got, e := GetCommit(p); e != api.OK || got.Root != c.Root || got.Note != c.Note || !slices.Equal(got.Parents, c.Parents) {
			t.Fatalf("%v: %v, %d", c, got, e)
		}
		for _, x := range []struct {
			m map[api.Id]string
			d api.Id
			s string
		}{{trees, TreeName(s), fmt.Sprint(list)}, {commits, CommitName(p), fmt.Sprint(c)}} {
			if elder, ok := x.m[x.d]; ok && elder != x.s {
				t.Fatalf("%s and %s have one name", elder, x.s)
			}
			x.m[x.d] = x.s
		}
	}
}

// P7.2: bytes that are got are just those of what they are got as, whatever byte is turned.
func TestBackAndThere(t *testing.T) {
	r := rand.New(rand.NewSource(2))
	tree, _ := PutTree(api.Entry{Name: "a", Id: id(1)}, api.Entry{Name: "b", Tree: true, Id: id(2)})
	commit, _ := PutCommit(api.Commit{Root: id(1), Note: "n", Parents: []api.Id{id(2)}})
	for range 20000 {
		b := []byte(tree)
		b[r.Intn(len(b))] = "\x00\x01abl"[r.Intn(5)]
		if list, e := GetTree(string(b)); e == api.OK {
			if s, e := PutTree(list...); e != api.OK || s != string(b) {
				t.Fatalf("%q", b)
			}
		}
		b = []byte(commit)
		b[r.Intn(len(b))] = "\x00\x01n"[r.Intn(3)]
		if c, e := GetCommit(string(b)); e == api.OK {
			if s, e := PutCommit(c); e != api.OK || s != string(b) {
				t.Fatalf("%q", b)
			}
		}
	}
}
