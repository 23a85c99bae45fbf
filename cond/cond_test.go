package cond

import (
	"fmt"
	"math"
	"math/rand"
	"slices"
	"strings"
	"testing"

	"seiche/api"
	"seiche/suffix"
)

// P16.1: which tags hold.
func TestOn(t *testing.T) {
	linux := api.Config{OS: "linux", Arch: "amd64", Level: 21, Tags: []string{"x", "y.1", "unix", "cgo", "gc", "windows", "", "go1.99"}}
	for tag, want := range map[string]bool{
		"linux": true, "amd64": true, "gc": true, "unix": true, "cgo": false, "x": true, "y.1": true, "z": false, "windows": true, "darwin": false, "": false, "arm": false, "Linux": false,
		"go1.0": true, "go1.1": true, "go1.9": true, "go1.20": true, "go1.21": true, "go1.22": false, "go1.99": true, "go1.021": false, "go1.00": false, "go1.": false, "go1": false, "go1.2a": false, "go1.+2": false,
		"go1.-1": false, "go1.21.0": false, "go2.1": false, "Go1.1": false, "go1. 1": false, "go1.10000": false, "go1.00001": false, "gccgo": false, "!x": false, "21": false, "1": false, "0": false, "1.1": false,
	} {
		if On(linux, tag) != want {
			t.Errorf("linux: %q: %v", tag, !want)
		}
	}
	for _, x := range []struct {
		c       api.Config
		on, off string
	}{
		{api.Config{}, "gc go1.0", "linux unix cgo amd64 go1.1"},
		{api.Config{OS: "windows", Cgo: true}, "windows cgo gc", "unix linux"},
		{api.Config{OS: "android"}, "android linux unix", "darwin solaris"},
		{api.Config{OS: "illumos"}, "illumos solaris unix", "linux"},
		{api.Config{OS: "ios"}, "ios darwin unix", "linux"},
		{api.Config{OS: "linux"}, "linux unix", "android"},
		{api.Config{OS: "solaris"}, "solaris unix", "illumos"},
		{api.Config{OS: "darwin"}, "darwin unix", "ios"},
		{api.Config{OS: "js", Arch: "wasm"}, "js wasm", "unix"},
		{api.Config{OS: "plan9"}, "plan9", "unix"},
		{api.Config{OS: "wasip1"}, "wasip1", "unix"},
		{api.Config{OS: "other", Arch: "unix"}, "other unix", "linux"},
		{api.Config{OS: "cgo"}, "cgo", "unix"},
		{api.Config{Level: -1}, "gc", "go1.0"},
		{api.Config{Level: math.MaxInt}, "go1.0 go1.9999", "go1.10000 go1.0001"},
		{api.Config{Level: 1000}, "go1.1000", "go1.1001"},
	} {
		for _, tag := range strings.Fields(x.on) {
			if !On(x.c, tag) {
				t.Errorf("%+v: %s doesn't hold", x.c, tag)
			}
		}
		for _, tag := range strings.Fields(x.off) {
			if On(x.c, tag) {
				t.Errorf("%+v: %s holds", x.c, tag)
			}
		}
	}
	for _, s := range strings.Fields("aix android darwin dragonfly freebsd illumos ios linux netbsd openbsd solaris js plan9 windows wasip1") {
		if On(api.Config{OS: s}, "unix") != suffix.Unix(s) || !On(api.Config{OS: s}, s) {
			t.Error(s)
		}
	}
}

// P16.1: which constraints hold.
func TestHolds(t *testing.T) {
	c := api.Config{OS: "linux", Arch: "arm", Tags: []string{"x", "&&", "!"}}
	for build, want := range map[string]bool{
		"": true, "linux": true, "!linux": false, "windows || arm": true, "x && !y": true, "(x)": true, "cgo": false, "!cgo": true, "gc": true, "y || z": false,
		"+linux": true, "+windows arm": true, "+linux,!arm": false, "+x\n+y": false, "+x\n+!y": true,
	} {
		if got, e := Holds(c, build); got != want || e != api.OK {
			t.Errorf("%q: %v, %d", build, got, e)
		}
	}
	for build, want := range map[string]api.Errno{
		" ": api.ErrForm, "x y": api.ErrForm, "+": api.ErrForm, "+x\n+": api.ErrForm, strings.Repeat("x", 1025): api.ErrLong, strings.Repeat("(", 65): api.ErrDeep,
	} {
		if got, e := Holds(c, build); got || e != want {
			t.Errorf("%q: %v, %d", build, got, e)
		}
	}
}

// P16.1: to which variant files belong, and with which fault.
func TestIn(t *testing.T) {
	c := api.Config{OS: "linux", Arch: "arm"}
	android := api.Config{OS: "android", Tags: []string{"amd64"}}
	good := api.Header{Name: "p"}
	tests := api.Header{Name: "p_test"}
	bad := api.Header{Fault: api.FaultImport, At: 3}
	form := api.Header{Name: "p_test", Build: "x y"}
	off := api.Header{Name: "p", Build: "windows"}
	on := api.Header{Name: "p", Build: "+linux"}
	cgo := api.Header{Name: "p", Imports: []api.Import{{Path: "x"}, {Path: "C"}}}
	both := api.Header{Name: "p", Imports: []api.Import{{Path: "C"}}, Build: " "}
	for i, x := range []struct {
		c           api.Config
		file        string
		h           api.Header
		kind, fault int
	}{
		{c, "a.go", good, api.Lib, 0}, {c, "a_test.go", good, api.Test, 0}, {c, "a_test.go", tests, api.XTest, 0}, {c, "a.go", tests, api.Lib, 0}, {c, "a_test.go", api.Header{Name: "_test"}, api.XTest, 0},
		{c, "a_test.go", api.Header{Name: "p_tests"}, api.Test, 0}, {c, "a_linux.go", good, api.Lib, 0}, {c, "a_arm.go", good, api.Lib, 0}, {c, "a_linux_arm_test.go", tests, api.XTest, 0},
		{c, "a_windows.go", good, 0, 0}, {c, "a_amd64.go", good, 0, 0}, {c, "a_linux_amd64.go", good, 0, 0}, {c, "a_windows_arm.go", good, 0, 0}, {c, "a_windows_test.go", bad, 0, 0},
		{c, "a.c", good, 0, 0}, {c, "_a.go", bad, 0, 0}, {c, ".a.go", good, 0, 0}, {c, "", good, 0, 0}, {c, "go.mod", bad, 0, 0},
		{android, "a_linux.go", good, api.Lib, 0}, {android, "a_android.go", good, api.Lib, 0}, {android, "a_amd64.go", good, api.Lib, 0}, {android, "a_arm.go", good, 0, 0}, {api.Config{}, "a_linux.go", good, 0, 0},
		{c, "a.go", bad, api.Lib, api.FaultImport}, {c, "a_test.go", bad, api.Test, api.FaultImport}, {c, "a_linux_test.go", api.Header{Fault: api.FaultBuild}, api.Test, api.FaultBuild},
		{c, "a.go", form, api.Lib, api.FaultBuild}, {c, "a_test.go", form, api.Test, api.FaultBuild}, {c, "a_windows.go", form, 0, 0}, {c, "a.go", api.Header{Name: "p", Build: "+"}, api.Lib, api.FaultBuild},
		{c, "a.go", off, 0, 0}, {c, "a_test.go", off, 0, 0}, {c, "a.go", on, api.Lib, 0}, {android, "a.go", on, api.Lib, 0},
		{c, "a.go", cgo, 0, 0}, {api.Config{Cgo: true}, "a.go", cgo, api.Lib, 0}, {c, "a.go", both, api.Lib, api.FaultBuild},
		{c, "a.go", api.Header{Name: "p", Imports: []api.Import{{Path: "C/x"}, {Path: "c"}}}, api.Lib, 0},
	} {
		if kind, fault := In(x.c, x.file, x.h); kind != x.kind || fault != x.fault {
			t.Errorf("%d: %s: %d, %d, want %d, %d", i, x.file, kind, fault, x.kind, x.fault)
		}
	}
}

// P16.2: a higher level holds all tags that a lower one does.
func TestLevels(t *testing.T) {
	r := rand.New(rand.NewSource(1))
	for range 20000 {
		low := r.Intn(12000) - 10
		high := low + r.Intn(40)
		tag := []string{fmt.Sprintf("go1.%d", low+r.Intn(60)-30), fmt.Sprintf("go1.%d", r.Intn(30)), "x", "linux", "unix"}[r.Intn(5)]
		c := api.Config{OS: "linux", Level: low}
		if On(c, tag) && !On(api.Config{OS: "linux", Level: high}, tag) {
			t.Fatalf("%s holds at %d, not at %d", tag, low, high)
		}
	}
}

// P16.1: what is handed in stays as it is.
func TestHandedIn(t *testing.T) {
	c := api.Config{Tags: []string{"b", "a"}}
	h := api.Header{Name: "p", Build: "a && b", Imports: []api.Import{{Path: "x"}}}
	In(c, "a.go", h)
	if !slices.Equal(c.Tags, []string{"b", "a"}) || h.Imports[0].Path != "x" {
		t.Error(c, h)
	}
}
