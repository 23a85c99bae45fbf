package modfile

import (
	"math/rand"
	"reflect"
	"strings"
	"testing"

	"seiche/api"
)

// same: whether two answers are, lists without entries and none being one.
func same(a, b api.Mod) bool {
	a.Replaces = append([]api.Replace{}, a.Replaces...)
	b.Replaces = append([]api.Replace{}, b.Replaces...)
	return reflect.DeepEqual(a, b)
}

// mod is an answer of module a; replaced paths and directories, one behind the other.
func mod(level int, list ...string) api.Mod {
	m := api.Mod{Path: "a", Level: level}
	for i := 0; i < len(list); i += 2 {
		m.Replaces = append(m.Replaces, api.Replace{Path: list[i], Dir: list[i+1]})
	}
	return m
}

// P17.1: what a go.mod says.
func TestParse(t *testing.T) {
	for s, want := range map[string]api.Mod{
		"module a":                                   mod(0),
		"module a\ngo 1.21\n":                        mod(21),
		"go 1.21.3\r\n\r\n \tmodule\ta \r\n":         mod(21),
		"module a // x\n// y\n go 1.9 // z":          mod(9),
		"module a//x":                                mod(0),
		"module a\ngo 1.0":                           mod(0),
		"module a\ngo 1.9999.0":                      mod(9999),
		"module b.com/x-y_z~1@[]{}!#$%&*+;<?^|\xff:": {Path: "b.com/x-y_z~1@[]{}!#$%&*+;<?^|\xff:"},
		"module a\nrequire b v1\nexclude c v1\nretract [v1, v2]\ntoolchain go1.21\nrequire x":    mod(0),
		"module a\nrequire (\n b v1 // indirect\n\n c\n d e f g =>\n require (\n)\nretract v1":   mod(0),
		"module a\nretract (\nv1\n[v2, v3]\n)\nexclude (\nb v1\n)\nreplace (\n)\ngo 1.5":         mod(5),
		"module a\nexclude (\n)\nretract(x\n":                                                    {Fault: 4},
		"module a\nrequire ( x\nrequire (x\nrequire ) (":                                         mod(0),
		"module a\nreplace b => ./c":                                                             mod(0, "b", "./c"),
		"module a\nreplace b v1 => ../c\nreplace d => .\nreplace e => ..":                        mod(0, "b", "../c", "d", ".", "e", ".."),
		"module a\nreplace b => c v1\nreplace b => c\nreplace b v2 => c v1\nreplace b => ./x":    mod(0, "b", "./x"),
		"module a\nreplace (\n\tb => ./c // x\n\n\td v1 => e v2\n\tf v1 => ../\n)\nreplace g=>h": {Fault: 8},
		"module a\nreplace (\n\tb => ./c // x\n\n\td v1 => e v2\n\tf v1 => ../\n)\n":             mod(0, "b", "./c", "f", "../"),
		"module a\nreplace b => .c\nreplace c => ..d\nreplace d => /x v1\nreplace e => .../x":    mod(0),
		"module a\nreplace b => ./c\"'(),=>\\":                                                   mod(0, "b", "./c\"'(),=>\\"),
		"module a\nreplace b => ./x//y":                                                          mod(0, "b", "./x"),
		"module a\nreplace b => =>\nreplace b => => c":                                           mod(0),
		"module a\nreplace (\nreplace b => c\n)":                                                 mod(0),
		"module a\nreplace a => ./b":                                                             mod(0, "a", "./b"),
	} {
		if got := Parse(s); !same(got, want) {
			t.Errorf("%q:\n got %+v\nwant %+v", s, got, want)
		}
	}
}

// P17.1: the first fault's line, and nothing else.
func TestFaults(t *testing.T) {
	for s, line := range map[string]int{
		"": 1, "\n": 2, "\n\n": 3, "// x": 1, "go 1.21": 1, "go 1.21\n": 2, "go 1.21\n\n x y\n": 3, "require (\nmodule a\n)": 3, "require b\n": 2,
		"module": 1, "module a b": 1, "module a\nmodule a": 2, "module a\n\nmodule b\n": 3, "module (": 1, "module (\na\n)": 1, "module \"a\"": 1, "module `a`": 1, "module 'a": 1, "module a\\b": 1,
		"module a(b": 1, "module a)": 1, "module a,b": 1, "module a=b": 1, "module a>b": 1, "Module a": 1, "modulea": 1, "module//a": 1,
		"module a\ngo": 2, "module a\ngo 1": 2, "module a\ngo 1.": 2, "module a\ngo 1.21 x": 2, "module a\ngo 2.1": 2, "module a\ngo 01.1": 2, "module a\ngo 1.01": 2, "module a\ngo 1.00": 2,
		"module a\ngo 1.10000": 2, "module a\ngo 1.1.10000": 2, "module a\ngo 1.1.01": 2, "module a\ngo 1.1.": 2, "module a\ngo 1.1.1.1": 2, "module a\ngo 1.x": 2, "module a\ngo 1.-1": 2, "module a\ngo 1.+1": 2,
		"module a\ngo 1.21rc1": 2, "module a\ngo 1.21\n\ngo 1.21": 4, "module a\ngo 1.0\ngo 1.0": 3, "module a\ngo (": 2, "module a\n.": 2, "module a\n)": 2, "module a\nrequire": 2, "module a\ntoolchain": 2,
		"module a\nexclude // x": 2, "module a\nretract\t": 2, "module a\nreplace": 2, "module a\nrequire(": 2, "module a\nuse b": 2, "module a\ntoolchain (\nx\n)": 3, "module a\nrequire (": 2,
		"module a\nrequire (\nx\n": 4, "module a\nrequire (\nx\n) y": 4, "module a\nrequire (\nx\n)\n)": 5, "module a\nreplace (\nx\n)": 3, "module a\nreplace (\nb => ./c\n": 4,
		"module a\nreplace b": 2, "module a\nreplace b =>": 2, "module a\nreplace => b": 2, "module a\nreplace b c d => e": 2, "module a\nreplace b => c d e": 2, "module a\nreplace b c": 2,
		"module a\nreplace b => ./c v1": 2, "module a\nreplace b => . v1": 2, "module a\nreplace b => .. v1": 2, "module a\nreplace b, => c": 2, "module a\nreplace \"b\" => c": 2, "module a\nreplace b=>c": 2,
		"module a\nreplace b => ./c\nreplace b => ./c": 3, "module a\nreplace b v1 => ./c\nreplace b v2 => ../d\n\n": 3, "module a\nreplace b => ./c // x\nreplace (\nb => ..\n)": 4, "module a\nreplace b // => c": 2,
	} {
		if got := Parse(s); !same(got, api.Mod{Fault: line}) {
			t.Errorf("%q: %+v, want line %d", s, got, line)
		}
	}
}

// P17.2: comments, blanks and lines without words change nothing but the numbers of lines.
func TestBlanks(t *testing.T) {
	r := rand.New(rand.NewSource(1))
	pieces := strings.Split("module a|module a|go 1.3|replace b => ./c|replace b v1 => d v2|replace c => ../x|require (|)|replace (|b => c|e => ./f|require x|x|go 1.x|", "|")
	for range 50000 {
		var lines, other []string
		at := []int{0}
		for range r.Intn(7) {
			line := pieces[r.Intn(len(pieces))]
			lines = append(lines, line)
			for r.Intn(3) == 0 {
				other = append(other, []string{"", " \t\r", "// x", "\t//", "//replace b"}[r.Intn(5)])
			}
			words := strings.Fields(line)
			other = append(other, strings.Repeat(" ", r.Intn(2))+strings.Join(words, []string{" ", "\t", " \r "}[r.Intn(3)])+[]string{"", " ", "//", " // x y", "\r"}[r.Intn(5)])
			at = append(at, len(other))
		}
		a, b := Parse(strings.Join(lines, "\n")), Parse(strings.Join(other, "\n"))
		if a.Fault > 0 && a.Fault < len(at) {
			a.Fault = at[a.Fault]
		}
		if !same(a, b) && len(lines) > 0 {
			t.Fatalf("%q and %q: %+v and %+v", lines, other, a, b)
		}
	}
}

// P17.1: the list of an answer is new.
func TestLists(t *testing.T) {
	s := "module a\nreplace b => ./c\n"
	one := Parse(s)
	one.Replaces[0].Dir = "x"
	if two := Parse(s); two.Replaces[0].Dir != "./c" {
		t.Error("two answers share a list")
	}
}
