package disk

import (
	"bytes"
	"fmt"
	"math"
	"math/rand"
	"slices"
	"sort"
	"strings"
	"testing"

	"seiche/api"
)

// want checks a call's error.
func want(t *testing.T, what string, got, e api.Errno) {
	t.Helper()
	if got != e {
		t.Errorf("%s: error %d, want %d", what, got, e)
	}
}

// has checks a file's bytes.
func has(t *testing.T, d *Device, s string, b ...byte) {
	t.Helper()
	got, e := d.Read(s)
	if e != api.OK || !bytes.Equal(got, b) {
		t.Errorf("%s has %v (error %d), want %v", s, got, e, b)
	}
}

// P3.1: the room is cut to what there can be.
func TestRoom(t *testing.T) {
	for room, free := range map[int]int{0: 0, -1: 0, math.MinInt: 0, 5: 5, api.MaxRoom: api.MaxRoom, api.MaxRoom + 1: api.MaxRoom, math.MaxInt: api.MaxRoom} {
		if got := New(room).Free(); got != free {
			t.Errorf("New(%d): %d free", room, got)
		}
	}
	d := New(5)
	want(t, "append", d.Append("f", 1, 2, 3), api.OK)
	want(t, "too much", d.Append("g", 1, 2, 3), api.ErrFull)
	if _, e := d.Read("g"); e != api.ErrNone || d.Acts() != 1 {
		t.Error("what is refused is there, or counted")
	}
	want(t, "just enough", d.Append("g", 1, 2), api.OK)
	want(t, "one more", d.Append("f", 1), api.ErrFull)
	want(t, "no bytes", d.Append("h"), api.OK)
	has(t, d, "h")
	if d.Free() != 0 || d.Acts() != 3 {
		t.Errorf("%d free, %d acts", d.Free(), d.Acts())
	}
	want(t, "cut", d.Cut("f", 1), api.OK)
	if d.Free() != 2 {
		t.Errorf("%d free behind a cut", d.Free())
	}
}

// P3.1: what a nil device answers.
func TestNil(t *testing.T) {
	var d *Device
	d.Off(1, true)
	d.On()
	d.Arm(1, 1, true)
	b, e := d.Read("")
	for _, e := range []api.Errno{e, d.Append("", 1), d.Sync(""), d.Cut("", -1), d.Rename("", ""), d.Remove("")} {
		want(t, "nil", e, api.ErrNil)
	}
	if d.Free() != 0 || d.Acts() != 0 || d.Down() || len(d.Names()) != 0 || len(b) != 0 {
		t.Error("a nil device has something")
	}
}

// P3.1: the errors' order: the power, the name, the file, what else there is.
func TestErrors(t *testing.T) {
	d := New(100)
	long := strings.Repeat("n", api.MaxName+1)
	for _, s := range []string{"", long} {
		_, e := d.Read(s)
		for i, e := range []api.Errno{e, d.Append(s, make([]byte, 101)...), d.Sync(s), d.Cut(s, -1), d.Rename(s, "b"), d.Remove(s)} {
			want(t, fmt.Sprint("name, call ", i), e, api.ErrArg)
		}
	}
	_, e := d.Read("f")
	for i, e := range []api.Errno{e, d.Sync("f"), d.Cut("f", -1), d.Rename("f", ""), d.Rename("f", "f"), d.Remove("f")} {
		want(t, fmt.Sprint("no file, call ", i), e, api.ErrNone)
	}
	want(t, "append", d.Append(long[1:], 1), api.OK)
	want(t, "cut", d.Cut(long[1:], -1), api.ErrArg)
	want(t, "rename", d.Rename(long[1:], long), api.ErrArg)
	want(t, "rename", d.Rename(long[1:], ""), api.ErrArg)
	if d.Acts() != 1 {
		t.Errorf("%d acts", d.Acts())
	}
	d.Off(0, false)
	_, e = d.Read("")
	for i, e := range []api.Errno{e, d.Append("", 1), d.Sync("f"), d.Cut("f", -1), d.Rename("f", ""), d.Remove(long)} {
		want(t, fmt.Sprint("down, call ", i), e, api.ErrDown)
	}
	if d.Acts() != 1 || !d.Down() {
		t.Error("an act without power")
	}
}

// P3.1: a file is cut, renamed, removed.
func TestFiles(t *testing.T) {
	d := New(100)
	d.Append("b", 1, 2, 3)
	d.Append("a", 4)
	d.Append("\xff", 5)
	if got := d.Names(); !slices.Equal(got, []string{"a", "b", "\xff"}) {
		t.Errorf("%q", got)
	}
	want(t, "cut", d.Cut("b", 7), api.OK)
	has(t, d, "b", 1, 2, 3)
	want(t, "cut", d.Cut("b", 2), api.OK)
	has(t, d, "b", 1, 2)
	want(t, "append", d.Append("b", 9), api.OK)
	has(t, d, "b", 1, 2, 9)
	want(t, "rename to itself", d.Rename("b", "b"), api.OK)
	has(t, d, "b", 1, 2, 9)
	want(t, "rename", d.Rename("b", "a"), api.OK)
	has(t, d, "a", 1, 2, 9)
	if _, e := d.Read("b"); e != api.ErrNone {
		t.Error("b is there")
	}
	want(t, "remove", d.Remove("a"), api.OK)
	if got := d.Names(); !slices.Equal(got, []string{"\xff"}) || d.Free() != 99 || d.Acts() != 9 {
		t.Errorf("%q, %d free, %d acts", got, d.Free(), d.Acts())
	}
}

// P3.1: what is there when the power has gone.
func TestLoss(t *testing.T) {
	for _, x := range []struct {
		keep int
		torn bool
		want []byte
	}{
		{0, false, []byte{1, 2}}, {0, true, []byte{1, 2}}, {-1, true, []byte{1, 2}}, {math.MinInt, true, []byte{1, 2}},
		{1, false, []byte{1, 2, 3}}, {1, true, []byte{1, 2, 0xfc}}, {2, true, []byte{1, 2, 3, 0xfb}},
		{3, true, []byte{1, 2, 3, 0xfb}}, {math.MaxInt, false, []byte{1, 2, 3, 4}},
	} {
		d := New(100)
		d.Append("f", 1, 2)
		d.Sync("f")
		d.Append("f", 3, 4)
		d.Append("g", 9)
		d.Off(x.keep, x.torn)
		d.Off(0, true)
		d.On()
		has(t, d, "f", x.want...)
		d.Off(0, true)
		d.On()
		has(t, d, "f", x.want...)
		if got := d.Names(); !slices.Equal(got, []string{"f", "g"}) {
			t.Errorf("files without bytes are gone: %q", got)
		}
	}
}

// P3.1: what was safe stays so behind a cut and a renaming; nothing more.
func TestSafe(t *testing.T) {
	d := New(100)
	d.Append("f", 1, 2, 3)
	d.Sync("f")
	d.Cut("f", 2)
	d.Append("f", 4, 5)
	d.Rename("f", "g")
	d.Off(1, false)
	d.On()
	has(t, d, "g", 1, 2, 4)
	d.Append("a", 1)
	d.Sync("a")
	d.Append("b", 2, 3)
	d.Rename("b", "a")
	d.Off(0, false)
	d.On()
	has(t, d, "a")
}

// P3.1: what the fuse does in an act of each kind.
func TestFuse(t *testing.T) {
	for _, keep := range []int{0, 1} {
		for i, act := range []func(d *Device) api.Errno{
			func(d *Device) api.Errno { return d.Append("f", 5, 6) },
			func(d *Device) api.Errno { return d.Sync("f") },
			func(d *Device) api.Errno { return d.Cut("f", 1) },
			func(d *Device) api.Errno { return d.Rename("f", "g") },
			func(d *Device) api.Errno { return d.Remove("f") },
		} {
			d := New(100)
			d.Append("f", 1, 2)
			d.Sync("f")
			d.Append("f", 3, 4)
			d.Arm(2, keep, false)
			want(t, "the act ahead", d.Append("z"), api.OK)
			want(t, "the n-th act", act(d), api.ErrDown)
			if !d.Down() || d.Acts() != 5 {
				t.Errorf("act %d: down %v, %d acts", i, d.Down(), d.Acts())
			}
			d.On()
			got := ""
			for _, s := range d.Names() {
				b, _ := d.Read(s)
				got += fmt.Sprint(s, b)
			}
			if all := [2][5]string{{"f[1 2]z[]", "f[1 2]z[]", "f[1 2]z[]", "f[1 2]z[]", "f[1 2]z[]"}, {"f[1 2 3]z[]", "f[1 2 3]z[]", "f[1]z[]", "g[1 2 3]z[]", "z[]"}}; got != all[keep][i] {
				t.Errorf("act %d, keep %d: %s", i, keep, got)
			}
			want(t, "the fuse is spent", d.Append("z"), api.OK)
			want(t, "the fuse is spent", d.Append("z"), api.OK)
		}
	}
}

// P3.1: a refused call is no act for the fuse; a loss, or another Arm, ends it; without power it may be set.
func TestFuseEnds(t *testing.T) {
	d := New(100)
	d.Arm(1, 0, false)
	want(t, "refused", d.Sync("f"), api.ErrNone)
	d.Arm(0, 0, false)
	want(t, "disarmed", d.Append("f"), api.OK)
	d.Arm(1, 0, false)
	d.Arm(-3, 0, false)
	want(t, "disarmed", d.Append("f"), api.OK)
	d.Arm(1, 0, false)
	d.Off(0, false)
	d.On()
	want(t, "ended by a loss", d.Append("f"), api.OK)
	d.Off(0, false)
	d.Arm(1, 1, true)
	d.Off(0, false)
	want(t, "down", d.Append("f", 1), api.ErrDown)
	d.On()
	want(t, "armed", d.Append("f", 1, 2), api.ErrDown)
	d.On()
	has(t, d, "f", 0xfe)
}

// model is a device as the document tells it, in the plainest way.
type model struct {
	room, acts, n, keep int
	torn, down          bool
	data                map[string][]byte
	safe                map[string]int
}

func (m *model) off(keep int, torn bool) {
	if m.down {
		return
	}
	m.down, m.n = true, 0
	for s, b := range m.data {
		end := m.safe[s]
		for keep > end-m.safe[s] && end < len(b) {
			end++
		}
		b = slices.Clone(b[:end])
		if torn && end > m.safe[s] {
			b[end-1] = ^b[end-1]
		}
		m.data[s], m.safe[s] = b, end
	}
}

// act does an act, or what of it the power lets be done.
func (m *model) act(kind string, do func()) api.Errno {
	m.acts++
	blown := m.n == 1
	if m.n > 0 {
		m.n--
	}
	if !blown || kind == "append" || kind != "sync" && m.keep > 0 {
		do()
	}
	if blown {
		m.off(m.keep, m.torn)
		return api.ErrDown
	}
	return api.OK
}

func (m *model) step(kind, a, b string, n int, bytes []byte) api.Errno {
	if m.down {
		return api.ErrDown
	}
	if a == "" || len(a) > 32 {
		return api.ErrArg
	}
	used := 0
	for _, x := range m.data {
		used += len(x)
	}
	if kind == "append" && used+len(bytes) > m.room {
		return api.ErrFull
	}
	if _, ok := m.data[a]; !ok && kind != "append" {
		return api.ErrNone
	}
	if kind == "cut" && n < 0 || kind == "rename" && (b == "" || len(b) > 32) {
		return api.ErrArg
	}
	return m.act(kind, func() {
		switch kind {
		case "append":
			m.data[a] = append(slices.Clone(m.data[a]), bytes...)
		case "sync":
			m.safe[a] = len(m.data[a])
		case "cut":
			if n < len(m.data[a]) {
				m.data[a] = m.data[a][:n]
			}
			if n < m.safe[a] {
				m.safe[a] = n
			}
		case "rename":
			if a != b {
				m.data[b], m.safe[b] = m.data[a], m.safe[a]
				delete(m.data, a)
				delete(m.safe, a)
			}
		case "remove":
			delete(m.data, a)
			delete(m.safe, a)
		}
	})
}

// same checks that a device is what the model is.
func same(t *testing.T, d *Device, m *model) {
	t.Helper()
	names := []string{}
	used := 0
	for s, b := range m.data {
		names = append(names, s)
		used += len(b)
		if !m.down {
			has(t, d, s, b...)
		}
	}
	sort.Strings(names)
	if !slices.Equal(d.Names(), names) || d.Free() != m.room-used || d.Acts() != m.acts || d.Down() != m.down {
		t.Fatalf("%q, %d free, %d acts, down %v", d.Names(), d.Free(), d.Acts(), d.Down())
	}
}

// P3.1, P3.2: in every order the device answers what the model does.
func TestEveryOrder(t *testing.T) {
	r := rand.New(rand.NewSource(3))
	names := []string{"a", "b", "c", "d", "", strings.Repeat("x", 33)}
	kinds := []string{"append", "append", "append", "sync", "cut", "rename", "remove"}
	for range 300 {
		room := r.Intn(60)
		d := New(room)
		m := &model{room: room, data: map[string][]byte{}, safe: map[string]int{}}
		for range 80 {
			a, b, n, keep, torn := names[r.Intn(len(names))], names[r.Intn(len(names))], r.Intn(12)-1, r.Intn(5)-1, r.Intn(2) == 0
			bytes := make([]byte, r.Intn(6))
			r.Read(bytes)
			kind := kinds[r.Intn(len(kinds))]
			switch r.Intn(12) {
			case 0:
				d.Off(keep, torn)
				m.off(keep, torn)
			case 1:
				d.Arm(n, keep, torn)
				m.n, m.keep, m.torn = n, keep, torn
			case 2, 3:
				d.On()
				m.down = false
			default:
				got := map[string]func() api.Errno{
					"append": func() api.Errno { return d.Append(a, bytes...) },
					"sync":   func() api.Errno { return d.Sync(a) },
					"cut":    func() api.Errno { return d.Cut(a, n) },
					"rename": func() api.Errno { return d.Rename(a, b) },
					"remove": func() api.Errno { return d.Remove(a) },
				}[kind]()
				if e := m.step(kind, a, b, n, bytes); got != e {
					t.Fatalf("%s(%q, %q, %d): error %d, want %d", kind, a, b, n, got, e)
				}
			}
			same(t, d, m)
		}
	}
}

// P3.2: what was synced is there; behind it a beginning of what was put there, but for its last byte.
func TestSynced(t *testing.T) {
	r := rand.New(rand.NewSource(4))
	for range 500 {
		d := New(200)
		var all []byte
		safe := 0
		for range 10 {
			b := make([]byte, r.Intn(5))
			r.Read(b)
			all = append(all, b...)
			d.Append("f", b...)
			if r.Intn(3) == 0 && d.Sync("f") == api.OK {
				safe = len(all)
			}
		}
		torn := r.Intn(2) == 0
		d.Off(r.Intn(10), torn)
		d.On()
		got, _ := d.Read("f")
		sure := len(got)
		if torn && sure > safe {
			sure--
		}
		if len(got) < safe || !bytes.HasPrefix(all, got[:sure]) {
			t.Fatalf("put %v, %d safe, there is %v", all, safe, got)
		}
	}
}

// P3.3: what is handed in is neither changed nor kept; what is answered is new memory.
func TestMemory(t *testing.T) {
	d := New(100)
	b := []byte{1, 2, 3, 77}
	d.Append("f", b[:3]...)
	d.Append("f", 5)
	b[0] = 9
	has(t, d, "f", 1, 2, 3, 5)
	got, _ := d.Read("f")
	got[0] = 8
	_ = append(got[:1], 7, 7)
	has(t, d, "f", 1, 2, 3, 5)
	d.Off(3, true)
	if !bytes.Equal(b, []byte{9, 2, 3, 77}) || !bytes.Equal(got, []byte{8, 7, 7, 5}) {
		t.Error(b, got)
	}
	names := d.Names()
	names[0] = "x"
	if d.Names()[0] != "f" {
		t.Error("names are shared")
	}
	one, two := New(10), New(10)
	one.Append("f", 1)
	if len(two.Names()) != 0 {
		t.Error("two devices know of one another")
	}
}
