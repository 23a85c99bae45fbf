package script

import (
	"fmt"
	"math/rand"
	"strings"
	"testing"

	"seiche/api"
)

// says checks what a script says: lines of a command, and what it says behind " -> ".
func says(t *testing.T, lines string) {
	t.Helper()
	var script, want []string
	for _, line := range strings.Split(strings.Trim(lines, "\n"), "\n") {
		command, answer, _ := strings.Cut(line, " -> ")
		script = append(script, command)
		want = append(want, answer)
	}
	text, line, e := Run(strings.Join(script, "\n"))
	if e != api.OK || line != 0 {
		t.Errorf("line %d, error %d", line, e)
		return
	}
	got := strings.Split(strings.TrimSuffix(text, "\n"), "\n")
	if len(got) != len(want) {
		t.Errorf("%d lines for %d commands", len(got), len(want))
		return
	}
	for i := range got {
		if got[i] != want[i] {
			t.Errorf("line %d, %s: %s, want %s", i+1, script[i], got[i], want[i])
		}
	}
}

// P25.1: commits, analyses, and rows.
func TestWorld(t *testing.T) {
	says(t, `
world 100000 100 -> ok
file go.mod module_m -> ok
commit x -> 1
counts -> 0 0 0
file a/a.go package_a|import_"m/b"|//go:embed_e| -> ok
file a/e 1 -> ok
file b/b.go package_b -> ok
file b/b_test.go package_b|import_"m/a" -> ok
commit  -> 2
analyze 1 2 -> 3 a:1:1 b:1:1 b:2:1
analyze 2 1 -> 3 a:1:2 b:1:2 b:2:2
analyze 2 2 -> 0
why 1 2 1 a -> a:1
counts -> 3 2 5
file b/b.go package_b|//_x -> ok
commit y -> 3
analyze 2 3 -> 3 a:1:4:b:1 b:1:3 b:2:3
why 2 3 1 a -> a:1 b:1
why 2 3 2 b -> b:2
why 2 3 3 b -> error 5
why 2 3 1 c -> error 5
why 2 3 -1 a -> error 5
analyze 0 1 -> error 5
analyze 1 4 -> error 5
analyze -1 9223372036854775807 -> error 5
why 1 9 1 a -> error 5
counts -> 4 3 7
gone b/b.go -> ok
gone b/b.go -> error 5
gone  -> error 5
commit z -> 4
analyze 3 4 -> 3 a:1:3 b:1:2 b:2:3
`)
}

// P25.1: at first there is nothing; what the nil ones answer.
func TestNothing(t *testing.T) {
	says(t, `
counts -> 0 0 0
commit x -> error 2
analyze 1 1 -> error 2
why 1 1 1 a -> error 2
evict 1 -> error 2
evict -1 -> error 2
compact -> error 2
sync -> error 2
arm 1 0 0 -> ok
crash 0 0 -> error 2
config 0 0   -> ok
tag x -> ok
faults 1 -> 0
file a.go package_a -> ok
file b.go package -> ok
file c.go # -> ok
faults 3 -> 2 b.go c.go
faults 0 -> error 1
faults 17 -> error 1
faults -5 -> error 1
gone b.go -> ok
faults 16 -> 1 c.go
gone x -> error 5
file a.go # -> ok
faults 1 -> 2 c.go a.go
world 10 0 -> error 1
faults 1 -> 0
sync -> error 2
commit x -> 1
analyze 1 1 -> 0
crash 0 0 -> error 1
world 10 4097 -> error 1
world -5 4096 -> ok
sync -> ok
evict -1 -> error 1
analyze 1 1 -> error 5
`)
}

// P25.1: the data's blanks and line feeds; paths are as they stand.
func TestData(t *testing.T) {
	says(t, `
world 9999 99 -> ok
file a/x_windows.go package_a -> ok
file a/y_test.go package_a|import_"C" -> ok
commit 1 -> 1
analyze 1 1 -> 0
file a/x_windows.go package_a; -> ok
file a/y_test.go package_a|import_"C"|| -> ok
commit 2 -> 2
analyze 1 2 -> 0
config 0 0 windows  -> ok
analyze 1 2 -> 1 a:1:3
config 1 0  arm -> ok
analyze 1 2 -> 1 a:2:3
config -7 0 windows amd64 -> ok
analyze 1 2 -> 2 a:1:3 a:2:3
file z z|z_z -> ok
file ../x  -> ok
commit 3 -> error 1
gone ../x -> ok
commit 123456789012345678901234567890123456789012345678901234567890abcd -> 3
commit 123456789012345678901234567890123456789012345678901234567890abcde -> error 1
commit 3 -> 4
`)
}

// P25.1: platforms and tags.
func TestPlatform(t *testing.T) {
	says(t, `
world 99999 99 -> ok
commit  -> 1
file x/x.go //go:build_t1_&&_t2_&&_!t3_&&_go1.5|package_x -> ok
commit  -> 2
analyze 1 2 -> 0
config 0 5   -> ok
tag t1 -> ok
analyze 1 2 -> 0
tag t2 -> ok
analyze 1 2 -> 1 x:1:1
tag t2 -> ok
analyze 1 2 -> 1 x:1:1
tag t3 -> ok
analyze 1 2 -> 0
config 0 5   -> ok
analyze 1 2 -> 0
tag t1 -> ok
tag t2 -> ok
analyze 1 2 -> 1 x:1:1
config 0 4   -> ok
tag t1 -> ok
tag t2 -> ok
analyze 1 2 -> 0
world 99999 99 -> ok
commit  -> 1
file x.go //go:build_!go1.1|package_x -> ok
commit  -> 2
analyze 1 2 -> 1 :1:1
why 1 2 1  -> :1
`)
}

// P25.1: the cache, and losses of power.
func TestCache(t *testing.T) {
	says(t, `
world 100000 100 -> ok
file a/a.go package_a -> ok
file b/b.go package_b -> ok
commit x -> 1
analyze 1 1 -> 0
counts -> 2 2 4
analyze 1 1 -> 0
counts -> 2 2 4
evict 1 -> ok
counts -> 2 2 3
analyze 1 1 -> 0
counts -> 2 2 3
evict 99 -> ok
analyze 1 1 -> 0
counts -> 4 4 4
sync -> ok
crash 0 0 -> ok
counts -> 4 4 4
evict 4 -> ok
crash 0 0 -> ok
counts -> 4 4 4
analyze 1 1 -> 0
counts -> 4 4 4
evict 4 -> ok
crash 100000 0 -> ok
counts -> 4 4 0
compact -> ok
analyze 1 1 -> 0
counts -> 6 6 4
crash 0 1 -> ok
counts -> 6 6 0
analyze 1 1 -> 0
compact -> ok
crash 0 1 -> ok
counts -> 8 8 4
arm 1 0 0 -> ok
sync -> error 7
sync -> error 7
evict 1 -> error 7
compact -> error 7
crash 0 0 -> ok
sync -> ok
arm 1 0 0 -> ok
crash 0 0 -> ok
sync -> ok
counts -> 8 8 4
arm 1 5 1 -> ok
config 0 0 x  -> ok
analyze 1 1 -> 0
counts -> 11 12 4
crash 0 0 -> ok
counts -> 11 12 4
analyze 1 1 -> 0
counts -> 11 14 6
crash 0 0 -> ok
compact -> ok
evict 9 -> ok
analyze 1 1 -> 0
crash 100000 1 -> ok
counts -> 13 16 3
analyze 1 1 -> 0
counts -> 13 17 4
crash 100000 0 -> ok
counts -> 13 17 4
arm 1 0 0 -> ok
sync -> error 7
arm 1 0 0 -> ok
crash 0 0 -> ok
sync -> ok
counts -> 13 17 4
arm 1 999 1 -> ok
evict 1 -> error 7
crash 0 0 -> ok
counts -> 13 17 4
arm 1 999 0 -> ok
evict 1 -> error 7
crash 0 0 -> ok
counts -> 13 17 3
world 100000 1 -> ok
counts -> 0 0 0
file a/a.go package_a -> ok
commit x -> 1
analyze 1 1 -> 0
counts -> 1 1 1
world 0 1 -> ok
file a/a.go package_a -> ok
commit x -> 1
analyze 1 1 -> 0
counts -> 2 2 0
evict 1 -> ok
`)
}

// P25.1, P25.3: lines that are no command, and their numbers.
func TestLines(t *testing.T) {
	for _, line := range []string{
		" ", "x", "World 1 1", "world", "world 1", "world 1 1 ", "world 1 1 1", " world 1 1", "world  1 1", "world\t1 1", "world 1 1\r", "world 01 1", "world +1 1", "world -0 1", "world 1 -", "world 1 1.0",
		"world 0x1 1", "world a 1", "world 1 9223372036854775808", "world 1 -9223372036854775809", "world 1 1_0", "file", "file a", "file a b c", "gone", "gone a b", "commit", "commit a b", "config 1 1", "config 1 1 a",
		"config a 1 x y", "config 1 1 a b c", "tag", "tag a b", "analyze 1", "analyze 1 2 3", "analyze a b", "why 1 2 3", "why 1 2 a b", "why 1 2 3 a b", "faults", "faults 1 1", "faults x", "counts ", "counts 1",
		"evict", "evict 1 1", "evict ", "compact 1", "compact ", "sync ", "arm 1 1", "arm 1 1 1 1", "crash 1", "crash 1 1 1", "crash", "\x00", "counts\x00", "counts counts",
	} {
		for _, ahead := range []string{"", "\n\n", "counts\n", "counts\n\nworld 1 1\n"} {
			for _, behind := range []string{"", "\n", "\nx", "\ncounts"} {
				text, n, e := Run(ahead + line + behind)
				if want := 1 + strings.Count(ahead, "\n"); text != "" || n != want || e != api.ErrLine {
					t.Errorf("%q: %q, line %d, error %d, want line %d", ahead+line+behind, text, n, e, want)
				}
			}
		}
	}
	for _, line := range []string{"world 0 -9223372036854775808", "world 9223372036854775807 1", "file  ", "gone ", "commit ", "config 0 0  ", "tag ", "why 0 0 0 ", "crash -1 -1", "arm 0 0 0", "commit \x00\xff"} {
		if text, n, e := Run(line); strings.Count(text, "\n") != 1 || n != 0 || e != api.OK {
			t.Errorf("%q: %q, line %d, error %d", line, text, n, e)
		}
	}
}

// P25.1: the limits of a script.
func TestLimits(t *testing.T) {
	if text, n, e := Run(""); text != "" || n != 0 || e != api.OK {
		t.Error("no bytes")
	}
	if text, n, e := Run("\n\n\n"); text != "" || n != 0 || e != api.OK {
		t.Error("lines without bytes")
	}
	if text, n, e := Run(strings.Repeat("\n", api.MaxScript)); text != "" || n != 0 || e != api.OK {
		t.Error("as many bytes as can be")
	}
	if text, n, e := Run("x" + strings.Repeat("\n", api.MaxScript)); text != "" || n != 0 || e != api.ErrLong {
		t.Error("one more")
	}
	most := strings.Repeat("counts\n\n", api.MaxSteps)
	if text, n, e := Run(most); text != strings.Repeat("0 0 0\n", api.MaxSteps) || n != 0 || e != api.OK {
		t.Errorf("as many commands as can be: line %d, error %d", n, e)
	}
	for script, line := range map[string]int{most + "counts": 1025, most + "\n\ncounts\ncounts": 1027, most + "x": 1025, most + "\nx\ncounts": 1026, "x\n" + most + "counts": 1} {
		if text, n, e := Run(script); text != "" || n != line || e != api.ErrLine {
			t.Errorf("line %d, error %d, want %d", n, e, line)
		}
	}
}

// anyScript is commands by chance.
func anyScript(r *rand.Rand, most int) []string {
	lines := []string{fmt.Sprintf("world %d %d", []int{0, 500, 100000}[r.Intn(3)], []int{1, 4, 4096}[r.Intn(3)])}
	if r.Intn(10) == 0 {
		lines = nil
	}
	for range r.Intn(most) {
		n, m := r.Intn(5), r.Intn(5)
		dir := []string{"", "a/", "b/", "c/"}[r.Intn(4)]
		name := []string{"x.go", "y.go", "x_test.go", "go.mod", "e"}[r.Intn(5)]
		data := []string{"package_p", "package_q", "package_p|import_\"m/a\"", "package_p|import_\"m/b\"|import_\"m/c\"", "module_m", "package", "package_p|//go:embed_e|", "package_p_test"}[r.Intn(8)]
		lines = append(lines, []string{
			"file " + dir + name + " " + data, "file " + dir + name + " " + data, "file " + dir + name + " " + data, "gone " + dir + name, "commit x", "commit x",
			fmt.Sprintf("analyze %d %d", n, m), fmt.Sprintf("analyze %d %d", n, m), fmt.Sprintf("why %d %d %d %s", n, m, 1+r.Intn(3), strings.TrimSuffix(dir, "/")), "faults 3", "counts", fmt.Sprintf("evict %d", n),
			"compact", "sync", fmt.Sprintf("arm %d %d %d", n, m*30, n%2), fmt.Sprintf("crash %d %d", m*30, n%2), "config 0 21 linux amd64", "tag x",
		}[r.Intn(18)])
	}
	return lines
}

// P25.2: each command says one line; a script says, from its beginning on, what its beginning says.
func TestBeginnings(t *testing.T) {
	r := rand.New(rand.NewSource(1))
	for range 150 {
		lines := anyScript(r, 60)
		all, _, e := Run(strings.Join(lines, "\n"))
		if e != api.OK || strings.Count(all, "\n") != len(lines) {
			t.Fatalf("%q: error %d", lines, e)
		}
		for range 4 {
			k := r.Intn(len(lines) + 1)
			text, _, e := Run(strings.Join(lines[:k], "\n\n"))
			if e != api.OK || !strings.HasPrefix(all, text) || strings.Count(text, "\n") != k {
				t.Fatalf("%q up to %d: %q, of %q", lines, k, text, all)
			}
		}
	}
}

// P2: what becomes of the cache changes no answer but of what tells of the cache itself.
func TestCacheChangesNothing(t *testing.T) {
	r := rand.New(rand.NewSource(2))
	told := 0
	for range 200 {
		lines := anyScript(r, 80)
		if len(lines) == 0 || !strings.HasPrefix(lines[0], "world") {
			continue
		}
		bare := append([]string{"world 0 0"}, lines[1:]...)
		one, _, _ := Run(strings.Join(lines, "\n"))
		two, _, _ := Run(strings.Join(bare, "\n"))
		a, b := strings.Split(one, "\n"), strings.Split(two, "\n")
		for i, line := range lines {
			word, _, _ := strings.Cut(line, " ")
			switch word {
			case "world", "counts", "evict", "compact", "sync", "crash":
				continue
			}
			told++
			if a[i] != b[i] {
				t.Fatalf("%q, line %d, %s: %s, and without a cache %s", lines, i+1, line, a[i], b[i])
			}
		}
	}
	if told < 1000 {
		t.Errorf("%d answers", told)
	}
}
