package suffix

import (
	"slices"
	"strings"
	"testing"
)

const (
	systems    = "aix android darwin dragonfly freebsd illumos ios js linux netbsd openbsd plan9 solaris wasip1 windows"
	processors = "386 amd64 arm arm64 loong64 mips mips64 mips64le mipsle ppc64 ppc64le riscv64 s390x wasm"
	unlike     = "js plan9 wasip1 windows"
	others     = " linux,Linux,lin,linuxx,unix,gc,zos,nacl,hurd,sparc64,amd64p32,riscv,go,_,x"
)

// P15.1: what is known, and what isn't.
func TestKnown(t *testing.T) {
	all := append(strings.Fields(systems+" "+processors), strings.Split(others, ",")...)
	for _, s := range append(all, "", "linux ", "js\n") {
		system := slices.Contains(strings.Fields(systems), s)
		if System(s) != system || Processor(s) != slices.Contains(strings.Fields(processors), s) || Unix(s) != (system && !slices.Contains(strings.Fields(unlike), s)) {
			t.Errorf("%q: %v, %v, %v", s, System(s), Processor(s), Unix(s))
		}
	}
}

// P15.1: what names say.
func TestOf(t *testing.T) {
	for s, want := range map[string]Name{
		"x.go": {Go: true}, "x_test.go": {Go: true, Test: true}, "x_linux.go": {Go: true, OS: "linux"}, "x_arm.go": {Go: true, Arch: "arm"},
		"x_linux_arm.go": {Go: true, OS: "linux", Arch: "arm"}, "x_linux_arm_test.go": {Go: true, Test: true, OS: "linux", Arch: "arm"},
		"x_linux_test.go": {Go: true, Test: true, OS: "linux"}, "x_arm_test.go": {Go: true, Test: true, Arch: "arm"},
		"x_arm_linux.go": {Go: true, OS: "linux"}, "x_linux_y.go": {Go: true}, "x_linux_y_arm.go": {Go: true, Arch: "arm"}, "x_y_linux_arm.go": {Go: true, OS: "linux", Arch: "arm"},
		"linux.go": {Go: true}, "arm.go": {Go: true}, "linux_arm.go": {Go: true, Arch: "arm"}, "linux_test.go": {Go: true, Test: true}, "linux_arm_test.go": {Go: true, Test: true, Arch: "arm"},
		"x_windows_windows.go": {Go: true, OS: "windows"}, "x_arm_amd64.go": {Go: true, Arch: "amd64"}, "x_linux_.go": {Go: true}, "x__linux.go": {Go: true, OS: "linux"},
		"x_linux__arm.go": {Go: true, Arch: "arm"}, "x_unix.go": {Go: true}, "x_Linux.go": {Go: true}, "x_test_linux.go": {Go: true, OS: "linux"}, "x_test_test.go": {Go: true, Test: true},
		"x_linux.y.go": {Go: true}, "x.y_linux.go": {Go: true, OS: "linux"}, "x_linux_test_test.go": {Go: true, Test: true}, "xtest.go": {Go: true}, "test.go": {Go: true}, "x.go.go": {Go: true},
		"é_js_wasm.go": {Go: true, OS: "js", Arch: "wasm"}, " .go": {Go: true}, "d/x_linux.go": {Go: true, OS: "linux"},
		"": {}, ".go": {}, "go": {}, "x": {}, "x.Go": {}, "x.go ": {}, "x_linux": {}, "_x.go": {}, "_test.go": {}, ".x.go": {}, "_linux_arm.go": {}, "x_linux.s": {}, "x.gox": {},
	} {
		if got := Of(s); got != want {
			t.Errorf("%q: %+v, want %+v", s, got, want)
		}
	}
}

// P15.2: each known system and processor behind a first part is told, with tests or without.
func TestAll(t *testing.T) {
	for _, os := range append(strings.Fields(systems), "") {
		for _, arch := range append(strings.Fields(processors), "") {
			for _, first := range []string{"x", "linux", "x_y"} {
				s := first
				for _, word := range []string{os, arch} {
					if word != "" {
						s += "_" + word
					}
				}
				if got := Of(s + ".go"); got != (Name{Go: true, OS: os, Arch: arch}) {
					t.Errorf("%s.go: %+v", s, got)
				}
				if got := Of(s + "_test.go"); got != (Name{Go: true, Test: true, OS: os, Arch: arch}) {
					t.Errorf("%s_test.go: %+v", s, got)
				}
			}
		}
	}
}

// P15.1: directories that are passed over.
func TestHidden(t *testing.T) {
	for s, want := range map[string]bool{"": false, "a": false, "a_": false, "a.b": false, "testdata": true, "testdatax": false, "xtestdata": false, "Testdata": false, "_": true, "_a": true, ".": true, ".a": true, "..": true, "vendor": false, "internal": false} {
		if Hidden(s) != want {
			t.Errorf("%q", s)
		}
	}
}
