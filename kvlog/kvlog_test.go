package kvlog

import (
	"bytes"
	"fmt"
	"math"
	"math/rand"
	"slices"
	"strings"
	"testing"

	"seiche/api"
	"seiche/code"
	"seiche/disk"
	"seiche/frame"
)

// want checks a call's error.
func want(t *testing.T, what string, got, e api.Errno) {
	t.Helper()
	if got != e {
		t.Errorf("%s: error %d, want %d", what, got, e)
	}
}

// open opens a store that must open.
func open(t *testing.T, d *disk.Device, most int) *Store {
	t.Helper()
	s, e := Open(d, "s", most)
	if e != api.OK || s == nil {
		t.Fatalf("open: error %d", e)
	}
	return s
}

// all is a store's entries as one text.
func all(s *Store) string {
	out := ""
	for _, k := range s.Keys() {
		v, ok := s.Get(k)
		out += fmt.Sprintf("%s=%s(%v) ", k, v, ok)
	}
	return out
}

// holds checks a store's entries: k=v, the eldest first.
func holds(t *testing.T, s *Store, entries ...string) {
	t.Helper()
	want := ""
	for _, x := range entries {
		want += x + "(true) "
	}
	if got := all(s); got != want {
		t.Errorf("there is %s, want %s", got, want)
	}
}

// file is a file's bytes.
func file(t *testing.T, d *disk.Device, name string) []byte {
	t.Helper()
	b, e := d.Read(name)
	if e != api.OK {
		t.Errorf("%s: error %d", name, e)
	}
	return b
}

func put(k, v string) string { return code.Join("put", k, v) }
func gone(k string) string   { return code.Join("gone", k) }

// P5.1: what is put is got, the eldest goes, and what stands in the file.
func TestPut(t *testing.T) {
	d := disk.New(1000)
	s := open(t, d, 2)
	if len(d.Names()) != 0 || d.Acts() != 0 {
		t.Error("opening made a file")
	}
	holds(t, s)
	want(t, "put", s.Put("a", "1"), api.OK)
	want(t, "put", s.Put("b", "2"), api.OK)
	want(t, "again", s.Put("a", "1"), api.OK)
	holds(t, s, "a=1", "b=2")
	want(t, "another value", s.Put("a", "3"), api.OK)
	holds(t, s, "b=2", "a=3")
	want(t, "a third", s.Put("", ""), api.OK)
	holds(t, s, "a=3", "=")
	if v, ok := s.Get("b"); v != "" || ok {
		t.Errorf("b: %q, %v", v, ok)
	}
	if got := file(t, d, "s"); !bytes.Equal(got, frame.Put(nil, put("a", "1"), put("b", "2"), put("a", "3"), gone("b"), put("", ""))) {
		t.Errorf("%q", got)
	}
	if d.Acts() != 4 {
		t.Errorf("%d acts", d.Acts())
	}
	holds(t, open(t, d, 2), "a=3", "=")
}

// P5.1: the arguments of Open, and its errors in their order.
func TestOpenErrors(t *testing.T) {
	d := disk.New(1000)
	name := strings.Repeat("n", 28)
	for _, x := range []struct {
		d    *disk.Device
		name string
		most int
		e    api.Errno
	}{
		{nil, "", 0, api.ErrNil}, {d, "", 1, api.ErrArg}, {d, name + "n", 1, api.ErrArg}, {d, "s", 0, api.ErrArg}, {d, "s", -1, api.ErrArg},
		{d, "s", api.MaxKeep + 1, api.ErrArg}, {d, "s", math.MinInt, api.ErrArg}, {d, name, 1, api.OK}, {d, "s", api.MaxKeep, api.OK},
	} {
		s, e := Open(x.d, x.name, x.most)
		if e != x.e || (s == nil) != (e != api.OK) {
			t.Errorf("Open(%q, %d): %v, error %d", x.name, x.most, s, e)
		}
	}
	d.Off(0, false)
	_, e := Open(d, "", 1)
	want(t, "name", e, api.ErrArg)
	_, e = Open(d, "s", 1)
	want(t, "down", e, api.ErrDown)
}

// P5.1: opening removes the draft, cuts the end off, and refuses records of another kind; in this order.
func TestOpenMends(t *testing.T) {
	d := disk.New(10000)
	good := frame.Put(nil, put("a", "1"), put("b", "2"), put("a", "3"), gone("x"), gone("b"), put("c", "4"), put("c", "4"))
	d.Append("s", good...)
	acts := d.Acts()
	holds(t, open(t, d, 1), "a=3", "c=4")
	if d.Acts() != acts {
		t.Error("an act without need")
	}
	d.Append("s", 1, 2, 3)
	d.Append("s.new", 9)
	acts = d.Acts()
	holds(t, open(t, d, 5), "a=3", "c=4")
	if d.Acts() != acts+2 || !slices.Equal(d.Names(), []string{"s"}) || !bytes.Equal(file(t, d, "s"), good) {
		t.Errorf("%d acts, %q", d.Acts()-acts, d.Names())
	}
	for _, r := range []string{
		"", "put", "x" + put("a", "1"), put("a", "1") + "x", code.Join(), code.Join("put"), code.Join("put", "a"), code.Join("put", "a", "b", "c"),
		code.Join("gone"), code.Join("gone", "a", "b"), code.Join("Put", "a", "b"), code.Join("other", "a"),
	} {
		d := disk.New(10000)
		d.Append("s", frame.Put(nil, put("a", "1"), r, put("b", "2"))...)
		d.Append("s", 7)
		d.Append("s.new", 9)
		s, e := Open(d, "s", 5)
		if e != api.ErrForm || s != nil {
			t.Errorf("record %q: error %d", r, e)
		}
		if b := file(t, d, "s"); !slices.Equal(d.Names(), []string{"s"}) || b[len(b)-1] == 7 {
			t.Errorf("record %q: the draft, or the torn end, is there", r)
		}
	}
}

// P5.1: the power goes in an act of Open.
func TestOpenDown(t *testing.T) {
	for n := 1; n <= 3; n++ {
		d := disk.New(1000)
		d.Append("s", frame.Put(nil, put("a", "1"))...)
		d.Append("s", 1)
		d.Append("s.new", 9)
		d.Sync("s")
		d.Arm(n, 0, false)
		s, e := Open(d, "s", 1)
		if n < 3 {
			want(t, "open", e, api.ErrDown)
			if s != nil {
				t.Error("a store beside an error")
			}
			d.On()
			s = open(t, d, 1)
		}
		holds(t, s, "a=1")
	}
}

// P5.1: more entries than most are there at first, till a new key comes.
func TestMost(t *testing.T) {
	d := disk.New(10000)
	s := open(t, d, 5)
	for _, k := range []string{"a", "b", "c", "d", "e"} {
		s.Put(k, "1")
	}
	s = open(t, d, 2)
	holds(t, s, "a=1", "b=1", "c=1", "d=1", "e=1")
	want(t, "no new key", s.Put("c", "2"), api.OK)
	holds(t, s, "a=1", "b=1", "d=1", "e=1", "c=2")
	want(t, "a new key", s.Put("f", "1"), api.OK)
	holds(t, s, "c=2", "f=1")
	holds(t, open(t, d, 2), "c=2", "f=1")
}

// P5.1: the limit of a record.
func TestLong(t *testing.T) {
	d := disk.New(api.MaxRoom)
	s := open(t, d, 5)
	free := api.MaxRecord - len(put("", ""))
	want(t, "most", s.Put("k", strings.Repeat("v", free-1)), api.OK)
	acts := d.Acts()
	want(t, "more", s.Put("k", strings.Repeat("v", free)), api.ErrLong)
	want(t, "more", s.Put(strings.Repeat("k", free+1), ""), api.ErrLong)
	if len(s.Keys()) != 1 || d.Acts() != acts {
		t.Error("what is too long was done")
	}
	s = open(t, d, 5)
	if v, _ := s.Get("k"); len(v) != free-1 {
		t.Errorf("%d bytes", len(v))
	}
}

// P5.1: entries that are evicted.
func TestEvict(t *testing.T) {
	d := disk.New(1000)
	s := open(t, d, 5)
	for _, k := range []string{"a", "b", "c", "d"} {
		s.Put(k, "1")
	}
	want(t, "below 0", s.Evict(-1), api.ErrArg)
	want(t, "none", s.Evict(0), api.OK)
	holds(t, s, "a=1", "b=1", "c=1", "d=1")
	acts := d.Acts()
	want(t, "two", s.Evict(2), api.OK)
	holds(t, s, "c=1", "d=1")
	if d.Acts() != acts+1 {
		t.Error("not at once")
	}
	holds(t, open(t, d, 5), "c=1", "d=1")
	want(t, "all", s.Evict(math.MaxInt), api.OK)
	holds(t, s)
	holds(t, open(t, d, 5))
}

// P5.1: a store without a file is synced, and compacted.
func TestNoFile(t *testing.T) {
	d := disk.New(1000)
	s := open(t, d, 5)
	want(t, "sync", s.Sync(), api.OK)
	if len(d.Names()) != 0 {
		t.Error("sync made a file")
	}
	want(t, "compact", s.Compact(), api.OK)
	holds(t, open(t, d, 5))
	d.Off(0, false)
	want(t, "sync", s.Sync(), api.ErrDown)
	want(t, "put", s.Put("a", "1"), api.ErrDown)
	want(t, "evict", s.Evict(1), api.ErrDown)
	want(t, "compact", s.Compact(), api.ErrDown)
}

// P5.1: what a nil store answers.
func TestNil(t *testing.T) {
	var s *Store
	for _, e := range []api.Errno{s.Put("a", strings.Repeat("v", api.MaxRecord)), s.Evict(-1), s.Sync(), s.Compact()} {
		want(t, "nil", e, api.ErrNil)
	}
	if v, ok := s.Get("a"); v != "" || ok || len(s.Keys()) != 0 {
		t.Error("a nil store has something")
	}
}

// P5.1: compacting leaves the entries, in their order, and nothing else; for good.
func TestCompact(t *testing.T) {
	d := disk.New(1000)
	s := open(t, d, 2)
	s.Put("a", "1")
	s.Put("b", "1")
	s.Put("a", "2")
	s.Put("c", "1")
	acts := d.Acts()
	want(t, "compact", s.Compact(), api.OK)
	holds(t, s, "a=2", "c=1")
	if d.Acts() != acts+3 || !slices.Equal(d.Names(), []string{"s"}) || !bytes.Equal(file(t, d, "s"), frame.Put(nil, put("a", "2"), put("c", "1"))) {
		t.Errorf("%d acts, %q", d.Acts()-acts, d.Names())
	}
	d.Off(0, false)
	d.On()
	holds(t, open(t, d, 2), "a=2", "c=1")
	want(t, "put", s.Put("d", "1"), api.OK)
	holds(t, open(t, d, 2), "c=1", "d=1")
}

// P5.3: a full device changes no entry.
func TestFull(t *testing.T) {
	one := len(frame.Put(nil, put("a", "1")))
	d := disk.New(2*one + 5)
	s := open(t, d, 2)
	s.Put("a", "1")
	s.Put("b", "1")
	bytes1 := file(t, d, "s")
	want(t, "a new key", s.Put("c", "1"), api.ErrFull)
	want(t, "a value", s.Put("a", "2"), api.ErrFull)
	want(t, "evict", s.Evict(1), api.ErrFull)
	want(t, "compact", s.Compact(), api.ErrFull)
	want(t, "nothing new", s.Put("a", "1"), api.OK)
	holds(t, s, "a=1", "b=1")
	if !bytes.Equal(file(t, d, "s"), bytes1) || !slices.Equal(d.Names(), []string{"s"}) {
		t.Error("the file has changed")
	}
	holds(t, open(t, d, 2), "a=1", "b=1")
}

// P5.1: in every order the store is what a plain list is.
func TestEveryOrder(t *testing.T) {
	r := rand.New(rand.NewSource(5))
	for range 300 {
		most := 1 + r.Intn(4)
		d := disk.New(600 + r.Intn(3000))
		s := open(t, d, most)
		var list []string
		for range 60 {
			k, v := string(rune('a'+r.Intn(6))), fmt.Sprint(r.Intn(3))
			switch r.Intn(9) {
			case 0:
				n := r.Intn(3)
				if s.Evict(n) == api.OK {
					list = list[min(n, len(list)):]
				}
			case 1:
				s.Compact()
			case 2:
				s.Sync()
			case 3:
				most = 1 + r.Intn(4)
				s = open(t, d, most)
			default:
				if s.Put(k, v) == api.OK && !slices.Contains(list, k+"="+v) {
					i := slices.IndexFunc(list, func(x string) bool { return x[:1] == k })
					if i >= 0 {
						list = slices.Delete(slices.Clone(list), i, i+1)
					}
					for i < 0 && len(list) >= most {
						list = list[1:]
					}
					list = append(slices.Clone(list), k+"="+v)
				}
			}
			holds(t, s, list...)
			if t.Failed() {
				return
			}
		}
	}
}

// P5.2: wherever the power goes, what is opened anew is what some beginning of the records leads to, with all that was made safe.
func TestLoss(t *testing.T) {
	r := rand.New(rand.NewSource(6))
	for range 3000 {
		most := 1 + r.Intn(3)
		d := disk.New(100000)
		s := open(t, d, most)
		states := []string{""} // what each record leads to, from the last safe one on
		d.Arm(1+r.Intn(20), r.Intn(80), r.Intn(2) == 0)
		e := api.OK
		for e == api.OK {
			switch r.Intn(8) {
			case 0:
				if e = s.Sync(); e == api.OK {
					states = states[len(states)-1:]
				}
			case 1:
				if e = s.Compact(); e == api.OK {
					states = states[len(states)-1:]
				}
			case 2:
				states = append(states, steps(s, s.eldest(2))...)
				e = s.Evict(2)
			default:
				k, v := string(rune('a'+r.Intn(4))), fmt.Sprint(r.Intn(9))
				if old, ok := s.Get(k); ok && old == v {
					continue
				}
				var rs []string
				if s.where(k) < 0 {
					rs = s.eldest(len(s.list) + 1 - most)
				}
				states = append(states, steps(s, append(rs, put(k, v)))...)
				e = s.Put(k, v)
			}
		}
		want(t, "the end", e, api.ErrDown)
		d.On()
		if got := all(open(t, d, most)); !slices.Contains(states, got) {
			t.Fatalf("there is %q, of %q", got, states)
		}
	}
}

// steps are the states to which a store's entries and each beginning of records lead.
func steps(s *Store, records []string) []string {
	x := &Store{list: slices.Clone(s.list)}
	var out []string
	for _, r := range records {
		x.do(r)
		out = append(out, all(x))
	}
	return out
}

// P5.1: the list of keys is new memory; two stores on one device know nothing of one another.
func TestApart(t *testing.T) {
	d := disk.New(1000)
	s := open(t, d, 3)
	s.Put("a", "1")
	s.Put("b", "1")
	keys := s.Keys()
	keys[0] = "x"
	holds(t, s, "a=1", "b=1")
	other, _ := Open(d, "t", 3)
	other.Put("c", "1")
	holds(t, s, "a=1", "b=1")
	holds(t, other, "c=1")
	holds(t, open(t, d, 3), "a=1", "b=1")
}
