package plus

import (
	"go/build/constraint"
	"math/rand"
	"slices"
	"strings"
	"testing"

	"seiche/api"
	"seiche/expr"
)

// P14.1: a line in the newer form.
func TestLine(t *testing.T) {
	for s, want := range map[string]string{
		"a": "a", "!a": "!a", "a,!b c": "((a && !b) || c)", "a b": "(a || b)", "a,b": "(a && b)", " \ta\t b ": "(a || b)", "a,b,c !d,e.1 _": "((a && b && c) || (!d && e.1) || _)", "a a": "(a || a)",
	} {
		if got, e := Line(s); got != want || e != api.OK {
			t.Errorf("%q: %q, %d", s, got, e)
		}
	}
	for _, s := range []string{"", " ", "\t", "!", "!!a", "a,", ",a", "a,,b", ",", "a ,b", "a, b", "! a", "a!", "a-b", "a\r", "a\nb", "(a)", "a||b", "é", "+a", "a b,! c"} {
		if got, e := Line(s); got != "" || e != api.ErrForm {
			t.Errorf("%q: %q, %d", s, got, e)
		}
	}
}

// P14.1: lines in the newer form.
func TestLines(t *testing.T) {
	for _, x := range []struct {
		list []string
		want string
		e    api.Errno
	}{
		{[]string{"a"}, "a", api.OK}, {[]string{"a,b"}, "(a && b)", api.OK}, {[]string{"a", "b c"}, "(a && (b || c))", api.OK}, {[]string{"a b,c", "!d", "e"}, "((a || (b && c)) && !d && e)", api.OK},
		{nil, "", api.ErrForm}, {[]string{""}, "", api.ErrForm}, {[]string{"a", ""}, "", api.ErrForm}, {[]string{"", "a"}, "", api.ErrForm}, {[]string{"a", "+b"}, "", api.ErrForm},
	} {
		if got, e := Lines(x.list...); got != x.want || e != x.e {
			t.Errorf("%q: %q, %d", x.list, got, e)
		}
	}
}

// P14.1: a header's constraint of either form, and the errors.
func TestParse(t *testing.T) {
	for s, want := range map[string]string{
		"a || b": "a b ||", "+a,!b c": "a b ! && c ||", "+a\n+b": "a b &&", "+a b\nc": "a b || c &&", "+a \n+\tb\t": "a b &&",
		"+" + strings.Repeat("x", 1024): strings.Repeat("x", 1024),
	} {
		if got, e := Parse(s); e != api.OK || strings.Join(got, " ") != want {
			t.Errorf("%q: %q, %d", s, got, e)
		}
	}
	for s, want := range map[string]api.Errno{
		"": api.ErrForm, " ": api.ErrForm, "+": api.ErrForm, "+a\n": api.ErrForm, "+a\n\n+b": api.ErrForm, "++a": api.ErrForm, "+a\n++b": api.ErrForm, "+a || b": api.ErrForm, "a,b": api.ErrForm, " +a": api.ErrForm,
		"a\n+b": api.ErrForm, "+" + strings.Repeat("x", 1025): api.ErrLong, strings.Repeat("x", 1025): api.ErrLong, strings.Repeat("(", 65): api.ErrDeep,
		"+" + strings.Repeat("a ", 300): api.ErrLong, "+" + strings.Repeat("a ", 2000) + "!": api.ErrForm,
	} {
		if got, e := Parse(s); e != want || len(got) != 0 {
			t.Errorf("%q: %q, %d, want %d", s, got, e, want)
		}
	}
}

// holds: whether lines hold, as the promise says.
func holds(lines []string, on []string) bool {
	for _, line := range lines {
		ok := slices.ContainsFunc(strings.Fields(line), func(option string) bool {
			return !slices.ContainsFunc(strings.Split(option, ","), func(term string) bool {
				tag, not := strings.CutPrefix(term, "!")
				return slices.Contains(on, tag) == not
			})
		})
		if !ok {
			return false
		}
	}
	return true
}

// P14.2: lines hold just if in each an option does; so the library reads each line, too.
func TestHolds(t *testing.T) {
	r := rand.New(rand.NewSource(1))
	for range 30000 {
		lines := make([]string, 1+r.Intn(3))
		for i := range lines {
			for range 1 + r.Intn(3) {
				lines[i] += " \t"[r.Intn(2):][:1]
				for j := range 1 + r.Intn(3) {
					lines[i] += strings.Repeat(",", min(j, 1)) + strings.Repeat("!", r.Intn(2)) + string(rune('a'+r.Intn(3)))
				}
			}
		}
		newer, e := Lines(lines...)
		parts, e2 := Parse("+" + strings.Join(lines, "\n+"))
		direct, e3 := expr.Parse(newer)
		if e != api.OK || e2 != api.OK || e3 != api.OK || !slices.Equal(parts, direct) {
			t.Fatalf("%q: %q, %d, %d, %d", lines, newer, e, e2, e3)
		}
		for bits := range 8 {
			var on []string
			for i, tag := range []string{"a", "b", "c"} {
				if bits>>i&1 == 1 {
					on = append(on, tag)
				}
			}
			want := holds(lines, on)
			if got, e := expr.Eval(parts, on...); got != want || e != api.OK {
				t.Fatalf("%q with %q: %v, %d", lines, on, got, e)
			}
			all := true
			for _, line := range lines {
				x, err := constraint.Parse("// +build " + line)
				all = all && err == nil && x.Eval(func(tag string) bool { return slices.Contains(on, tag) })
			}
			if all != want {
				t.Fatalf("%q with %q: the library says %v", lines, on, all)
			}
		}
	}
}

// P14.1: the list handed in stays as it is.
func TestHandedIn(t *testing.T) {
	list := []string{"a,b", "c"}
	Lines(list...)
	if !slices.Equal(list, []string{"a,b", "c"}) {
		t.Error(list)
	}
}
