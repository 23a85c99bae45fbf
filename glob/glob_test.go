package glob

import (
	"math/rand"
	"path"
	"regexp"
	"strings"
	"testing"

	"seiche/api"
)

// P19.1: names that are, and aren't, one of a pattern.
func TestMatch(t *testing.T) {
	for _, x := range []struct{ pattern, yes, no string }{
		{"", "", "a|/"},
		{"a", "a", "|b|aa|A|a/"},
		{"a*.go", "a.go|ab.go|a.b.go|a*.go", "a/b.go|a/.go|b.go|a.gox|.go"},
		{"*", "|a|ab|\xff|\n|[", "/|a/b|/a|a/"},
		{"**", "|a|ab", "/"},
		{"*/*", "/|a/|/b|a/b", "|a|a//b|a/b/c"},
		{"?", "a|*|?|\xff|\n", "|/|ab|é"},
		{"a?c", "abc|a?c", "ac|a/c|abbc"},
		{"*a*b", "ab|xaybb|aab|abab", "a/b|xa/ab|ba|aba"},
		{"[abc]", "a|b|c", "|d|/|ab|[|]"},
		{"[a-c]", "a|b|c", "d|-|`"},
		{"[^a-c]", "d|^|-|\n|\xff", "a|b|c|/|"},
		{"[a-cx-z_]", "a|c|y|_", "d|w|-"},
		{"[^a^]", "b|]", "a|^|/"},
		{"[a^]", "a|^", "b"},
		{"[[]", "[", "]|a"},
		{"[*]", "*", "a|"},
		{"[?]x", "?x", "ax"},
		{"[\\]]", "]", "\\|["},
		{"[\\-]", "-", "\\"},
		{"[\\^]", "^", "a"},
		{"[\\a-\\c]", "a|b|c", "\\|d"},
		{"[\\\\]", "\\", "]"},
		{"[a-a]", "a", "b|-"},
		{"[!-~]", "!|a|0|~", "/| "},
		{"[\x00-\xff]", "\x00|a|\xff", "/"},
		{"[.-0]", ".|0", "/"},
		{"[/]", "/", "a|"},
		{"[\\/]", "/", "\\"},
		{"[/-/]", "/", "a"},
		{"[^/]", "a|^", "/"},
		{"[//]", "", "/|a"},
		{"[/a]", "a", "/"},
		{"[a/]", "a", "/"},
		{"a[/]b", "a/b", "ab"},
		{"]", "]", "["},
		{"-^]", "-^]", "-"},
		{"\\*", "*", "a|\\*|"},
		{"\\?\\[\\]\\\\\\a", "?[]\\a", "x[]\\a"},
		{"\\/", "/", ""},
		{"é", "é", "e|\xc3"},
		{"??", "é|ab", "e"},
		{"[é]", "\xc3|\xa9", "é|e"},
		{"d/*.[ch]", "d/x.c|d/.h", "d/x.go|d/e/x.c|dx.c"},
	} {
		for _, list := range []string{x.yes, x.no} {
			for _, name := range strings.Split(list, "|") {
				if name == "" && list != x.no && x.pattern != "" && x.pattern != "*" && x.pattern != "**" {
					continue
				}
				if got, e := Match(x.pattern, name); got != (list == x.yes) || e != api.OK {
					t.Errorf("%q, %q: %v, %d", x.pattern, name, got, e)
				}
			}
		}
	}
}

// P19.1: what is no pattern, whatever the name is.
func TestForm(t *testing.T) {
	for _, s := range []string{
		"\\", "a\\", "\\\\\\", "[", "[]", "[^", "[^]", "[a", "[^a", "[a-", "[a-]", "[-a]", "[-]", "[a-b-c]", "[]a]", "[^]a]", "[b-a]", "[\x00-]", "[\x00-", "[a\\", "[\\", "[\\]", "[a-\\]", "[a-\\", "[a--]", "[\\b-\\a]", "[^-a]",
		"x[", "*[", "[a][", "a/[b", "[a-z0-]", "[0--]",
	} {
		for _, name := range []string{"", "a", s, "x", "\\", "zzz", "/"} {
			if got, e := Match(s, name); got || e != api.ErrForm {
				t.Errorf("%q, %q: %v, %d", s, name, got, e)
			}
		}
	}
}

// expression is a pattern as a regular expression; false: it is no pattern.
func expression(pattern string) (string, bool) {
	out := ""
	for pattern != "" {
		m := regexp.MustCompile(`^(?s:\[\^?((\\.|[^\]\\-])(-(\\.|[^\]\\-]))?)+\]|\\.|[^\\\[])`).FindString(pattern)
		if m == "" {
			return "", false
		}
		pattern = pattern[len(m):]
		switch {
		case m == "*":
			out += "[^/]*"
		case m == "?":
			out += "[^/]"
		case m[0] == '[':
			set, ok := class(m)
			if !ok {
				return "", false
			}
			out += set
		default:
			out += regexp.QuoteMeta(m[len(m)-1:])
		}
	}
	return `\A(?s:` + out + `)\z`, true
}

// class is a class as a regular expression: all its signs, one by one.
func class(m string) (string, bool) {
	inner, not := strings.CutPrefix(m[1:len(m)-1], "^")
	if !regexp.MustCompile(`^(?s:((\\.|[^\]\\-])(-(\\.|[^\]\\-]))?)+)$`).MatchString(inner) {
		return "", false
	}
	ranges := regexp.MustCompile(`(?s)(\\.|[^\\])(-(\\.|[^\\]))?`).FindAllStringSubmatch(inner, -1)
	has := map[byte]bool{}
	for _, x := range ranges {
		low, high := x[1][len(x[1])-1], x[1][len(x[1])-1]
		if x[3] != "" {
			high = x[3][len(x[3])-1]
		}
		if low > high {
			return "", false
		}
		for b := int(low); b <= int(high); b++ {
			has[byte(b)] = true
		}
	}
	var out []string
	for b := 0; b < 0x80; b++ {
		one := byte(b)
		if one == '/' && !not && len(has) == 1 && len(ranges) == 1 && has['/'] || one != '/' && has[one] != not {
			out = append(out, regexp.QuoteMeta(string(rune(b))))
		}
	}
	if len(out) == 0 {
		return `[^\x00-\x{10ffff}]`, true
	}
	return "(" + strings.Join(out, "|") + ")", true
}

// text is made of so many signs at most.
func text(r *rand.Rand, signs string, most int) string {
	b := make([]byte, r.Intn(most+1))
	for i := range b {
		b[i] = signs[r.Intn(len(signs))]
	}
	return string(b)
}

// P19.1: any patterns and names, against regular expressions.
func TestAnyText(t *testing.T) {
	r := rand.New(rand.NewSource(1))
	good, yes := 0, 0
	for range 15000 {
		pattern := text(r, "ab*?[]^-\\/ab*", 8)
		s, ok := expression(pattern)
		for range 4 {
			name := text(r, "abc/ab*-", 5)
			got, e := Match(pattern, name)
			if !ok {
				if got || e != api.ErrForm {
					t.Fatalf("%q: %v, %d", pattern, got, e)
				}
				continue
			}
			good++
			if want := regexp.MustCompile(s).MatchString(name); got != want || e != api.OK {
				t.Fatalf("%q, %q: %v, %d, want %v", pattern, name, got, e, want)
			}
			if got {
				yes++
			}
		}
	}
	if good < 10000 || yes < 200 {
		t.Errorf("%d of patterns, %d of them matched", good, yes)
	}
}

// P19.1: names without slashes, and ranges that rise, against the library.
func TestLibrary(t *testing.T) {
	r := rand.New(rand.NewSource(2))
	for range 200000 {
		pattern, name := text(r, "ab*?[^\\]", 7), text(r, "ab^", 5)
		want, err := path.Match(pattern, name)
		if got, e := Match(pattern, name); got != want || (e == api.OK) != (err == nil) {
			t.Fatalf("%q, %q: %v, %d; the library: %v, %v", pattern, name, got, e, want, err)
		}
	}
}

// P19.2: a name with a \ ahead of each sign is a pattern of it alone.
func TestQuoted(t *testing.T) {
	r := rand.New(rand.NewSource(3))
	for range 20000 {
		name, other := text(r, "a*?[]^-\\/\xff\x00", 6), text(r, "a*?[]^-\\/\xff\x00", 6)
		pattern := ""
		for i := range len(name) {
			pattern += "\\" + name[i:i+1]
		}
		if got, e := Match(pattern, name); !got || e != api.OK {
			t.Fatalf("%q: %v, %d", name, got, e)
		}
		if got, e := Match(pattern, other); got != (name == other) || e != api.OK {
			t.Fatalf("%q, %q: %v, %d", name, other, got, e)
		}
	}
}

// P19.1: many stars come to an end soon.
func TestStars(t *testing.T) {
	if got, e := Match(strings.Repeat("*a", 1000)+"b", strings.Repeat("a", 5000)); got || e != api.OK {
		t.Error(got, e)
	}
}
