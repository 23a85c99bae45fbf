package expr

import (
	"go/build/constraint"
	"math/rand"
	"slices"
	"strings"
	"testing"

	"seiche/api"
)

// P13.1: what is a tag.
func TestTag(t *testing.T) {
	for _, s := range []string{"a", "z", "A", "Z", "0", "9", "azAZ09", "_", ".", "go1.21", "x_y.Z0", "..."} {
		if !Tag(s) {
			t.Errorf("%q is a tag", s)
		}
	}
	for _, s := range []string{"", " ", "a ", "a-b", "!a", "a\n", "é", "\xff", "\x00", "/", ":", "@", "[", "`", "{", "!", "&&", "||"} {
		if Tag(s) {
			t.Errorf("%q is no tag", s)
		}
	}
}

// nested is a tag within so many brackets.
func nested(n int) string { return strings.Repeat("(", n) + "a" + strings.Repeat(")", n) }

// P13.1: parts, and what has none.
func TestParse(t *testing.T) {
	for s, want := range map[string]string{
		"a":                              "a",
		"a || !b && c":                   "a b ! c && ||",
		"a||b||c":                        "a b || c ||",
		"a&&b&&c":                        "a b && c &&",
		"a && b || c && d":               "a b && c d && ||",
		"a && (b || c) && d":             "a b c || && d &&",
		"!(a || b)":                      "a b || !",
		"!a":                             "a !",
		"! a":                            "a !",
		"!(!a)":                          "a ! !",
		"((a))":                          "a",
		" \t( \t! \ta \t) \t&&b":         "a ! b &&",
		"a.b_1":                          "a.b_1",
		"(a)||(b)":                       "a b ||",
		nested(64):                       "a",
		"(a)&&" + nested(64):             "a a &&",
		strings.Repeat("x", 1024):        strings.Repeat("x", 1024),
		"a" + strings.Repeat("||a", 341): "a" + strings.Repeat(" a ||", 341),
	} {
		got, e := Parse(s)
		if e != api.OK || strings.Join(got, " ") != want {
			t.Errorf("%q: %q, %d", s, got, e)
		}
	}
	for s, want := range map[string]api.Errno{
		"": api.ErrForm, " ": api.ErrForm, "!": api.ErrForm, "!!a": api.ErrForm, "! !a": api.ErrForm, "a b": api.ErrForm, "a&b": api.ErrForm, "a& &b": api.ErrForm, "a|b": api.ErrForm,
		"a&&": api.ErrForm, "&&a": api.ErrForm, "a||": api.ErrForm, "||a": api.ErrForm, "a&&&b": api.ErrForm, "a&&||b": api.ErrForm, "(a": api.ErrForm, "a)": api.ErrForm, "()": api.ErrForm,
		"a(b)": api.ErrForm, "(a)b": api.ErrForm, "a!": api.ErrForm, "a,b": api.ErrForm, "a\nb": api.ErrForm, "a\r": api.ErrForm, "é": api.ErrForm, "\x00": api.ErrForm, "a//b": api.ErrForm,
		nested(65): api.ErrDeep, nested(64) + ")": api.ErrForm, strings.Repeat("(", 64): api.ErrForm, strings.Repeat("(", 65): api.ErrDeep, strings.Repeat("!(", 65): api.ErrDeep,
		strings.Repeat("(", 64) + ")(": api.ErrForm, "a (" + nested(65): api.ErrForm, "a b" + nested(65): api.ErrForm, nested(65) + " b b": api.ErrDeep, nested(63) + "&&" + nested(65): api.ErrDeep,
		strings.Repeat("x", 1025): api.ErrLong, strings.Repeat("(", 1025): api.ErrLong, strings.Repeat(" ", 1025): api.ErrLong, strings.Repeat(" ", 1024): api.ErrForm,
	} {
		if got, e := Parse(s); e != want || len(got) != 0 {
			t.Errorf("%q: %q, %d, want %d", s, got, e, want)
		}
	}
}

// P13.1: parts that hold, or don't, or are none.
func TestEval(t *testing.T) {
	for s, want := range map[string]bool{
		"a": true, "b": false, "b !": true, "a !": false, "a ! !": true, "a b &&": false, "a b ||": true, "a c &&": true, "b d ||": false, "b ! c &&": true,
		"a b c || &&": true, "b a c || &&": false, "a b && c ||": true,
	} {
		if got, e := Eval(strings.Fields(s), "a", "c"); got != want || e != api.OK {
			t.Errorf("%q: %v, %d", s, got, e)
		}
	}
	for _, parts := range [][]string{
		nil, {}, {""}, {"!"}, {"&&"}, {"||"}, {"a", "&&"}, {"a", "||"}, {"&&", "a"}, {"a", "a"}, {"a", "a", "a", "&&"}, {"a b"}, {"a", "!!"}, {"a", "("}, {"a", "&"}, {"a", "a", "&&", "||"}, {"a", "é", "||"},
	} {
		if got, e := Eval(parts, "a", "é", "", "!", "&&", "a b"); got || e != api.ErrForm {
			t.Errorf("%q: %v, %d", parts, got, e)
		}
	}
	if got, e := Eval([]string{"a"}); got || e != api.OK {
		t.Error("no tags that hold")
	}
}

// P13.1: what is handed in stays as it is.
func TestHandedIn(t *testing.T) {
	parts := []string{"a", "b", "&&", "c", "||", "spare"}
	on := []string{"c", "b", "a"}
	Eval(parts[:5], on...)
	if !slices.Equal(parts, []string{"a", "b", "&&", "c", "||", "spare"}) || !slices.Equal(on, []string{"c", "b", "a"}) {
		t.Error(parts, on)
	}
}

// P13.2: any texts, against the library's reading of constraints.
func TestAnyText(t *testing.T) {
	r := rand.New(rand.NewSource(1))
	good := 0
	for range 300000 {
		s := ""
		for range 1 + r.Intn(9) {
			s += []string{"a", "b", "c", "!", "(", ")", "&&", "||", "&&", "||", " ", "\t", "|", ""}[r.Intn(14)]
		}
		x, err := constraint.Parse("//go:build " + s)
		parts, e := Parse(s)
		if (err == nil) != (e == api.OK) || e != api.OK && e != api.ErrForm {
			t.Fatalf("%q: %v, error %d", s, err, e)
		}
		if err != nil {
			continue
		}
		good++
		for bits := range 8 {
			var on []string
			for i, tag := range []string{"a", "b", "c"} {
				if bits>>i&1 == 1 {
					on = append(on, tag)
				}
			}
			want := x.Eval(func(tag string) bool { return slices.Contains(on, tag) })
			if got, e := Eval(parts, on...); got != want || e != api.OK {
				t.Fatalf("%q with %q: %v, %d", s, on, got, e)
			}
		}
	}
	if good < 10000 {
		t.Errorf("%d constraints", good)
	}
}

// P13.2: brackets around, and blanks, change nothing.
func TestBrackets(t *testing.T) {
	for _, s := range []string{"a", "!a", "a||b&&c", "!(a||b)&&c"} {
		want, _ := Parse(s)
		for _, other := range []string{"(" + s + ")", " (\t" + s + " ) ", strings.ReplaceAll(s, "||", "\t || "), strings.ReplaceAll(s, "!", " ! ")} {
			if got, e := Parse(other); e != api.OK || !slices.Equal(got, want) {
				t.Errorf("%q: %q, %d", other, got, e)
			}
		}
	}
}
