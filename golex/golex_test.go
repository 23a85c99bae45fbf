package golex

import (
	"go/scanner"
	gotoken "go/token"
	"math/rand"
	"os"
	"path/filepath"
	"regexp"
	"slices"
	"strings"
	"testing"

	"seiche/api"
	"seiche/utf"
)

// show is tokens as one text: a letter for the kind, the text, and the place.
func show(list []api.Token) string {
	var out []string
	for _, x := range list {
		out = append(out, "EINCSO;B"[x.Kind:x.Kind+1]+x.Text+"@"+itoa(x.At))
	}
	return strings.Join(out, " ")
}

func itoa(n int) string {
	if n < 10 {
		return string(rune('0' + n))
	}
	return itoa(n/10) + string(rune('0'+n%10))
}

// P11.1: tokens of texts, one by one.
func TestLex(t *testing.T) {
	for s, want := range map[string]string{
		"":                     "E@0",
		"\ufeff":               "E@3",
		"\ufeffa":              "Ia@3 ;@4 E@4",
		" \t\r\n":              "E@4",
		"a + 1\n":              "Ia@0 O+@2 N1@4 ;@5 E@6",
		"a;\n;":                "Ia@0 ;;@1 ;;@3 E@4",
		"func\nreturn\nbreak":  "Ifunc@0 Ireturn@5 ;@11 Ibreak@12 ;@17 E@17",
		"a++\nb--\n)]}":        "Ia@0 O++@1 ;@3 Ib@4 O--@5 ;@7 O)@8 O]@9 O}@10 ;@11 E@11",
		"(\n[\n{\n,\n+\n":      "O(@0 O[@2 O{@4 O,@6 O+@8 E@10",
		")\n]\n}\n":            "O)@0 ;@1 O]@2 ;@3 O}@4 ;@5 E@6",
		"'a'\n\"b\"\n`c`\n1\n": "C'a'@0 ;@3 S\"b\"@4 ;@7 S`c`@8 ;@11 N1@12 ;@13 E@14",
		"a // x\nb":            "Ia@0 ;@6 Ib@7 ;@8 E@8",
		"a /* x */ b":          "Ia@0 Ib@10 ;@11 E@11",
		"a /* \n */ b":         "Ia@0 ;@2 Ib@10 ;@11 E@11",
		"a /*\n*/ /*\n*/\nb":   "Ia@0 ;@2 Ib@14 ;@15 E@15",
		"( /*\n*/ )":           "O(@0 O)@8 ;@9 E@9",
		"a//x":                 "Ia@0 ;@4 E@4",
		"a/*x":                 "Ia@0 B@1",
		"a/*\n":                "Ia@0 B@1",
		"/*/":                  "B@0",
		"/**/a":                "Ia@4 ;@5 E@5",
		"/***/a":               "Ia@5 ;@6 E@6",
		"a/*\n\xff*/":          "Ia@0 B@4",
		"a//\x00\nb":           "Ia@0 B@3",
		"//\ufeff":             "B@2",
		"a\x00b":               "Ia@0 B@1",
		"a\ufeff":              "Ia@0 B@1",
		"aé_9\u4e16x":          "Iaé_9\u4e16x@0 ;@9 E@9",
		"\u00a0":               "I\u00a0@0 ;@2 E@2",
		"_ 9a":                 "I_@0 N9a@2 ;@4 E@4",
		"1é":                   "N1@0 Ié@1 ;@3 E@3",
		"1.2.3 1..x":           "N1.2.3@0 N1..x@6 ;@10 E@10",
		".5 .x . 5 ..5 ...5":   "N.5@0 O.@3 Ix@4 O.@6 N5@8 O.@10 N.5@11 O...@14 N5@17 ;@18 E@18",
		"1e+5 1E-5 1p+5 1P-5":  "N1e+5@0 N1E-5@5 N1p+5@10 N1P-5@15 ;@19 E@19",
		"0x1e+5 0X1E-5":        "N0x1e@0 O+@4 N5@5 N0X1E@7 O-@11 N5@12 ;@13 E@13",
		"0x1p+5 0b1e+3 00xe+1": "N0x1p+5@0 N0b1e+3@7 N00xe+1@14 ;@20 E@20",
		"1+2 1e++ 1ee+-":       "N1@0 O+@1 N2@2 N1e+@4 O+@7 N1ee+@9 O-@13 E@14",
		".0x1e+5":              "N.0x1e+5@0 ;@7 E@7",
		"1_000i":               "N1_000i@0 ;@6 E@6",
		"'''":                  "B@0",
		"''":                   "B@0",
		"'":                    "B@0",
		"'\\''":                "C'\\''@0 ;@4 E@4",
		"'\\\\'":               "C'\\\\'@0 ;@4 E@4",
		"'abc'":                "C'abc'@0 ;@5 E@5",
		"'é'":                  "C'é'@0 ;@4 E@4",
		"'a\n'":                "B@0",
		"'\\\n'":               "B@0",
		"x '\n\xff":            "Ix@0 B@2",
		"x 'a\xff\n":           "Ix@0 B@4",
		"x '\xff":              "Ix@0 B@3",
		"''\xff":               "B@0",
		"'a\\":                 "B@0",
		"\"\"":                 "S\"\"@0 ;@2 E@2",
		"\"\\\"\\\\\"":         "S\"\\\"\\\\\"@0 ;@6 E@6",
		"\"'`//\"":             "S\"'`//\"@0 ;@6 E@6",
		"\"a":                  "B@0",
		"\"a\n\"":              "B@0",
		"\"\\\n\"":             "B@0",
		"\"\\\xff\"":           "B@2",
		"\"\x00\n":             "B@1",
		"\"\n\x00":             "B@0",
		"``":                   "S``@0 ;@2 E@2",
		"`a\n\\`":              "S`a\n\\`@0 ;@5 E@5",
		"`a":                   "B@0",
		"`a\n\xff":             "B@3",
		"#":                    "B@0",
		"a $ b":                "Ia@0 B@2",
		"?":                    "B@0",
		"@":                    "B@0",
		"\\":                   "B@0",
		"\xff":                 "B@0",
		"\x7f":                 "B@0",
		"\v":                   "B@0",
		"<<=>>=&^=&^&&<-<--":   "O<<=@0 O>>=@3 O&^=@6 O&^@9 O&&@11 O<-@13 O<-@15 O-@17 E@18",
		"====!====:==~=":       "O==@0 O==@2 O!=@4 O==@6 O=@8 O:=@9 O=@11 O~@12 O=@13 E@14",
		"....":                 "O...@0 O.@3 E@4",
		"|||+=+++":             "O||@0 O|@2 O+=@3 O++@5 O+@7 E@8",
		"1\x80":                "N1@0 B@1",
		"1\x7f":                "N1@0 B@1",
		"a|=b":                 "Ia@0 O|=@1 Ib@3 ;@4 E@4",
		"a/b /= c":             "Ia@0 O/@1 Ib@2 O/=@4 Ic@7 ;@8 E@8",
	} {
		if got := show(Lex(s)); got != want {
			t.Errorf("%q:\n got %s\nwant %s", s, got, want)
		}
	}
}

// P11.1: the comments ahead of the end, or the fault.
func TestNotes(t *testing.T) {
	for s, want := range map[string]string{
		"": "", "a": "", "// x": "E// x@0", "//": "E//@0", "a // x\r\n//y\n": "E// x\r@2 E//y@8", "/* a\n */ b /**/": "E/* a\n */@0 E/**/@11",
		"\ufeff//a": "E//a@3", "//a\n#//b": "E//a@0", "//a\n//b\xff": "E//a@0", "/*a*//*b": "E/*a*/@0", "\"//a\" '/*' `//b`": "", "/*//*/": "E/*//*/@0", "///*\n*/": "E///*@0",
	} {
		if got := show(Notes(s)); got != want {
			t.Errorf("%q: %s, want %s", s, got, want)
		}
	}
}

// P11.1: the words.
func TestKeyword(t *testing.T) {
	for i := gotoken.BREAK; i <= gotoken.VAR; i++ {
		if !Keyword(i.String()) {
			t.Errorf("%s is a keyword", i)
		}
	}
	for _, s := range []string{"", "a", "_", "Func", "func ", "true", "nil", "any", "int", "vars", "retur"} {
		if Keyword(s) {
			t.Errorf("%q is no keyword", s)
		}
	}
}

// shapes are the things that can stand in a text, as expressions.
var shapes = []struct {
	kind int
	re   *regexp.Regexp
}{
	{-1, regexp.MustCompile(`^[ \t\r\n]`)},
	{-2, regexp.MustCompile(`^//[^\n]*`)},
	{-2, regexp.MustCompile(`^(?s:/\*.*?\*/)`)},
	{api.Ident, regexp.MustCompile(`^[\pL\p{M}\p{Zs}A-Za-z_\x{80}-\x{10ffff}][A-Za-z_0-9\x{80}-\x{10ffff}]*`)},
	{api.Number, regexp.MustCompile(`^0[xX]([pP][+-]|[A-Za-z_0-9.])*`)},
	{api.Number, regexp.MustCompile(`^\.?[0-9]([pPeE][+-]|[A-Za-z_0-9.])*`)},
	{api.Char, regexp.MustCompile(`^'(\\[^\n]|[^\\'\n])+'`)},
	{api.String, regexp.MustCompile(`^"(\\[^\n]|[^\\"\n])*"`)},
	{api.String, regexp.MustCompile("^`[^`]*`")},
	{api.Semi, regexp.MustCompile(`^;`)},
	{api.Op, regexp.MustCompile(`^(<<=|>>=|&\^=|\.\.\.|&&|\|\||<-|\+\+|--|==|!=|<=|>=|:=|\+=|-=|\*=|/=|%=|&=|\|=|\^=|<<|>>|&\^|[-+*/%&|^<>=!~()\[\]{},.:])`)},
}

// fault is where a text's first place is at which no sign stands; its length, if there is none.
func fault(s string) int {
	at := utf.Skip(s)
	for at < len(s) {
		r, n := utf.Rune(s, at)
		if r < 0 {
			break
		}
		at += n
	}
	return at
}

// plain reads a text's tokens and comments by the expressions.
func plain(s string) (tokens, notes []api.Token) {
	stop := fault(s)
	at := utf.Skip(s)
	feed := func(at int) {
		if n := len(tokens); n > 0 {
			x := tokens[n-1]
			word := !Keyword(x.Text) || slices.Contains([]string{"break", "continue", "fallthrough", "return"}, x.Text)
			if x.Kind >= api.Number && x.Kind <= api.String || x.Kind == api.Ident && word || slices.Contains([]string{"++", "--", ")", "]", "}"}, x.Text) {
				tokens = append(tokens, api.Token{Kind: api.Semi, At: at})
			}
		}
	}
next:
	for at < stop {
		for _, x := range shapes {
			m := x.re.FindString(s[at:stop])
			if m == "" || x.kind == -2 && m[1] == '/' && at+len(m) == stop && stop < len(s) {
				continue
			}
			if x.kind == api.Op && (strings.HasPrefix(s[at:], "//") || strings.HasPrefix(s[at:], "/*")) {
				continue
			}
			switch x.kind {
			case -1:
				if m == "\n" {
					feed(at)
				}
			case -2:
				notes = append(notes, api.Token{Text: m, At: at})
				if strings.Contains(m, "\n") {
					feed(at)
				}
			default:
				tokens = append(tokens, api.Token{Kind: x.kind, Text: m, At: at})
			}
			at += len(m)
			continue next
		}
		// Nothing stands there whole: the fault is here, unless the way through it ends at the place without a sign.
		rest, bad := s[at:stop], at
		open := strings.HasPrefix(rest, "//") || strings.HasPrefix(rest, "/*") || rest[0] == '`' ||
			(rest[0] == '\'' || rest[0] == '"') && !strings.Contains(rest, "\n") && !strings.HasPrefix(rest, "''")
		if open && stop < len(s) {
			bad = stop
		}
		return append(tokens, api.Token{Kind: api.Bad, At: bad}), notes
	}
	if stop < len(s) {
		return append(tokens, api.Token{Kind: api.Bad, At: stop}), notes
	}
	feed(len(s))
	return append(tokens, api.Token{Kind: api.End, At: len(s)}), notes
}

// pieces are what texts are made of by chance.
var pieces = strings.Split("a|é|func|return|_|0|9|.|0x|e|E|p|+|-|'|'|\"|\"|`|`|\\|/|/|*|*|//|/*|*/|\n|\n| |\t|\r|;|<|>|=|&|^|!|:|(|)|{|}|[|]|,|~|%|#|\xff|\x00|\ufeff|||'a'|\"b\"|`c`|1|b", "|")

// text is made of so many pieces at most.
func text(r *rand.Rand, most int) string {
	var b strings.Builder
	for range r.Intn(most + 1) {
		b.WriteString(pieces[r.Intn(len(pieces))])
	}
	return b.String()
}

// P11.1: any texts, against the plain reading.
func TestAnyText(t *testing.T) {
	r := rand.New(rand.NewSource(1))
	for range 200000 {
		s := text(r, 12)
		tokens, notes := plain(s)
		if got := Lex(s); !slices.Equal(got, tokens) {
			t.Fatalf("%q:\n got %s\nwant %s", s, show(got), show(tokens))
		}
		if got := Notes(s); !slices.Equal(got, notes) {
			t.Fatalf("%q:\n got %s\nwant %s", s, show(got), show(notes))
		}
	}
}

// P11.2: what is written stands in the text, rising, apart; between there are only blanks, line feeds and comments.
func TestWritten(t *testing.T) {
	r := rand.New(rand.NewSource(2))
	for range 50000 {
		s := text(r, 14)
		all := append(Lex(s), Notes(s)...)
		slices.SortStableFunc(all, func(a, b api.Token) int { return a.At - b.At })
		at := utf.Skip(s)
		for _, x := range all {
			if x.Text == "" {
				continue
			}
			if x.At < at || !strings.HasPrefix(s[x.At:], x.Text) || strings.Trim(s[at:x.At], " \t\r\n") != "" {
				t.Fatalf("%q: %s", s, show(all))
			}
			at = x.At + len(x.Text)
		}
		last := Lex(s)[len(Lex(s))-1]
		if last.Kind != api.End && last.Kind != api.Bad || last.Kind == api.End && strings.Trim(s[at:], " \t\r\n") != "" {
			t.Fatalf("%q: %s", s, show(all))
		}
	}
}

// P11.3: what stands behind a token and three signs more changes neither it nor those ahead.
func TestBehind(t *testing.T) {
	r := rand.New(rand.NewSource(3))
	for range 50000 {
		s := text(r, 14)
		list := Lex(s)
		for i, x := range list {
			if x.Text == "" {
				continue
			}
			end := x.At + len(x.Text)
			for range 3 {
				_, n := utf.Rune(s, end)
				end += n
			}
			other := s[:end] + text(r, 3)
			if end < len(s) && !slices.Equal(Lex(other)[:i+1], list[:i+1]) {
				t.Fatalf("%q and %q: %s and %s", s, other, show(list), show(Lex(other)))
			}
		}
	}
}

// P11.1: the project's own files, against the language's scanner.
func TestFiles(t *testing.T) {
	files, _ := filepath.Glob("../*/*.go")
	if len(files) == 0 {
		t.Fatal("no files")
	}
	for _, f := range files {
		src, err := os.ReadFile(f)
		if err != nil {
			t.Fatal(err)
		}
		set := gotoken.NewFileSet()
		file := set.AddFile(f, -1, len(src))
		var sc scanner.Scanner
		sc.Init(file, src, nil, 0)
		for i, x := range Lex(string(src)) {
			pos, tok, lit := sc.Scan()
			if lit == "\n" {
				lit = ""
			}
			if lit == "" && tok != gotoken.SEMICOLON && tok != gotoken.EOF {
				lit = tok.String()
			}
			if lit != strings.ReplaceAll(x.Text, "\r", "") || x.Text != "" && file.Offset(pos) != x.At {
				t.Fatalf("%s: token %d is %q at %d, want %q", f, i, x.Text, x.At, lit)
			}
		}
	}
}

// P11.1: a long text is gone through in time that grows with its length.
func TestLong(t *testing.T) {
	for _, x := range []string{"a ", "'", "\"\\", "/*", "`", "//", "1e+", "....", "\n", "é"} {
		Lex(strings.Repeat(x, 1<<18))
		Notes(strings.Repeat(x, 1<<18))
	}
}
