package utf

import (
	"math"
	"math/rand"
	"strings"
	"testing"
)

// encode is a number's bytes in the form of n bytes, shortest or not.
func encode(r rune, n int) string {
	switch n {
	case 1:
		return string([]byte{byte(r)})
	case 2:
		return string([]byte{0xc0 | byte(r>>6), 0x80 | byte(r&0x3f)})
	case 3:
		return string([]byte{0xe0 | byte(r>>12), 0x80 | byte(r>>6&0x3f), 0x80 | byte(r&0x3f)})
	}
	return string([]byte{0xf0 | byte(r>>18), 0x80 | byte(r>>12&0x3f), 0x80 | byte(r>>6&0x3f), 0x80 | byte(r&0x3f)})
}

// size is how many bytes a sign has; 0: it is none.
func size(r rune) int {
	switch {
	case r < 1 || r > 0x10ffff || r >= 0xd800 && r <= 0xdfff:
		return 0
	case r <= 0x7f:
		return 1
	case r <= 0x7ff:
		return 2
	case r <= 0xffff:
		return 3
	}
	return 4
}

// P10.1: every sign is read, in its shortest form alone, at any place; cut off it is none.
func TestEverySign(t *testing.T) {
	for r := rune(0); r < 0x200000; r++ {
		for n := 1; n <= 4; n++ {
			if n == 1 && r > 0x7f || n == 2 && r > 0x7ff || n == 3 && r > 0xffff {
				continue
			}
			s := encode(r, n) + "x"
			wantR, wantN := rune(-1), 1
			if n == size(r) {
				wantR, wantN = r, n
			}
			if gotR, gotN := Rune(s, 0); gotR != wantR || gotN != wantN {
				t.Fatalf("%x in %d bytes: %x, %d", r, n, gotR, gotN)
			}
			if r == 0xfeff && n == 3 {
				wantR, wantN = -1, 3
			}
			if gotR, gotN := Rune("é"+s, 2); gotR != wantR || gotN != wantN {
				t.Fatalf("%x in %d bytes, behind: %x, %d", r, n, gotR, gotN)
			}
			if gotR, gotN := Rune(s[:n-1], 0); n > 1 && (gotR != -1 || gotN != 1) {
				t.Fatalf("%x cut off: %x, %d", r, gotR, gotN)
			}
		}
	}
}

// P10.1: single bytes, places beyond the text, and texts that only seem to be signs.
func TestPlaces(t *testing.T) {
	for _, x := range []struct {
		s  string
		at int
		r  rune
		n  int
	}{
		{"", 0, -1, 0}, {"a", -1, -1, 0}, {"a", 1, -1, 0}, {"a", math.MinInt, -1, 0}, {"a", math.MaxInt, -1, 0}, {"a", 0, 'a', 1}, {"\x00", 0, -1, 1}, {"a\x00", 1, -1, 1},
		{"\u00e9", 0, 0xe9, 2}, {"\u00e9", 1, -1, 1}, {"\x80", 0, -1, 1}, {"\xff", 0, -1, 1}, {"\xc3", 0, -1, 1}, {"\xc3a", 0, -1, 1}, {"\xf8\x88\x80\x80\x80", 0, -1, 1},
		{"\ufffd", 0, 0xfffd, 3}, {"\ufeff", 0, 0xfeff, 3}, {"\ufeff\ufeff", 3, -1, 3}, {"a\ufeff", 1, -1, 3}, {"a\xef\xbb", 1, -1, 1}, {"\U0010ffff", 0, 0x10ffff, 4},
		{"\xf4\x90\x80\x80", 0, -1, 1}, {"\xed\xa0\x80", 0, -1, 1}, {"\n", 0, '\n', 1}, {"\x7f", 0, 0x7f, 1},
	} {
		if r, n := Rune(x.s, x.at); r != x.r || n != x.n {
			t.Errorf("Rune(%q, %d) = %x, %d", x.s, x.at, r, n)
		}
	}
}

// P10.1: a mark at the beginning is passed over.
func TestSkip(t *testing.T) {
	for s, n := range map[string]int{"": 0, "\ufeff": 3, "\ufeffa": 3, "\ufeff\ufeff": 3, "a\ufeff": 0, "\xef\xbb": 0, "\xfe\xff": 0} {
		if got := Skip(s); got != n {
			t.Errorf("Skip(%q) = %d", s, got)
		}
	}
}

// P10.1: letters, digits and blanks, of all numbers.
func TestKinds(t *testing.T) {
	const letters = "abcdefghijklmnopqrstuvwxyzABCDEFGHIJKLMNOPQRSTUVWXYZ_"
	for r := rune(-300); r < 0x300; r++ {
		in := func(s string) bool { return r >= 0 && r < 0x80 && strings.ContainsRune(s, r) }
		if Letter(r) != (in(letters) || r >= 0x80) || Digit(r) != in("0123456789") || Blank(r) != in(" \t\r") {
			t.Errorf("%x: %v, %v, %v", r, Letter(r), Digit(r), Blank(r))
		}
	}
	for _, r := range []rune{math.MinInt32, -1, 0xd800, 0xfeff, 0x10ffff, 0x110000, math.MaxInt32} {
		if Letter(r) != (r > 0) || Digit(r) || Blank(r) {
			t.Errorf("%x", r)
		}
	}
}

// P10.2: going through by Rune ends, after as many steps as there are bytes at most.
func TestSteps(t *testing.T) {
	r := rand.New(rand.NewSource(1))
	for range 5000 {
		b := make([]byte, r.Intn(30))
		for i := range b {
			b[i] = "a\x00\xef\xbb\xbf\xf0\x9f\x98\x80\xff"[r.Intn(10)]
		}
		at, steps := 0, 0
		for at < len(b) {
			_, n := Rune(string(b), at)
			if n < 1 {
				t.Fatalf("%q at %d: no step", b, at)
			}
			at += n
			steps++
		}
		if at != len(b) || steps > len(b) {
			t.Fatalf("%q: %d steps to %d", b, steps, at)
		}
	}
}
