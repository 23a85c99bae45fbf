package code

import (
	"math"
	"math/rand"
	"slices"
	"strings"
	"testing"

	"seiche/api"
)

// numbers are values at the edges of a number's bytes.
var numbers = []int{0, 1, -1, 7, 255, 256, 258, 65535, 1 << 31, 1<<32 - 1, 1 << 56, math.MaxInt, math.MinInt, -256}

// P1.1: a number is eight bytes, the highest first.
func TestNum(t *testing.T) {
	for n, want := range map[int]string{
		0:             "\x00\x00\x00\x00\x00\x00\x00\x00",
		258:           "\x00\x00\x00\x00\x00\x00\x01\x02",
		-1:            "\xff\xff\xff\xff\xff\xff\xff\xff",
		-2:            "\xff\xff\xff\xff\xff\xff\xff\xfe",
		math.MaxInt:   "\x7f\xff\xff\xff\xff\xff\xff\xff",
		math.MinInt:   "\x80\x00\x00\x00\x00\x00\x00\x00",
		0x01020304050: "\x00\x00\x00\x10\x20\x30\x40\x50",
	} {
		if got := Num(n); got != want {
			t.Errorf("Num(%d) = %x, want %x", n, got, want)
		}
	}
	for _, n := range numbers {
		for _, behind := range []string{"", "x", "behind"} {
			if got, ok := ReadNum(Num(n) + behind); got != n || !ok {
				t.Errorf("ReadNum(Num(%d)) = %d, %v", n, got, ok)
			}
		}
	}
}

// P1.1: fewer than eight bytes are no number.
func TestReadNumShort(t *testing.T) {
	for i := range 8 {
		if n, ok := ReadNum(strings.Repeat("\x01", i)); n != 0 || ok {
			t.Errorf("%d bytes: %d, %v", i, n, ok)
		}
	}
}

// P1.1: the bytes of what is joined.
func TestJoin(t *testing.T) {
	if got := Join(); got != strings.Repeat("\x00", 8) {
		t.Errorf("Join() = %x", got)
	}
	if got := Join("a"); got != Num(1)+Num(1)+"a" || len(got) != 17 {
		t.Errorf("Join(a) = %x", got)
	}
	if got := Join("ab", "", "c"); got != Num(3)+Num(2)+"ab"+Num(0)+Num(1)+"c" {
		t.Errorf("Join(ab, , c) = %x", got)
	}
}

// P1.1: a text to which no parts are joined is refused.
func TestSplitForm(t *testing.T) {
	good := Join("ab", "", "c")
	bad := []string{
		"", good + "x", Num(-1), Num(1), Num(2) + Num(0), Num(0) + "x", Num(math.MaxInt), Num(math.MinInt),
		Num(1) + Num(-1), Num(1) + Num(math.MaxInt) + "x", Num(1) + Num(math.MinInt) + "x",
		Num(1) + Num(math.MaxInt-7) + "x", Num(1) + Num(2) + "x", Num(2) + Num(1) + "x", Num(1<<61) + Num(0),
	}
	for i := range good {
		bad = append(bad, good[:i])
	}
	for _, s := range bad {
		if l, e := Split(s); e != api.ErrForm || len(l) != 0 {
			t.Errorf("Split(%x) = %q, %d", s, l, e)
		}
	}
}

// P1.1: the limit of what is split.
func TestSplitLong(t *testing.T) {
	most := Join(strings.Repeat("x", api.MaxText-16))
	if l, e := Split(most); len(most) != api.MaxText || e != api.OK || len(l) != 1 || len(l[0]) != api.MaxText-16 {
		t.Errorf("of %d bytes: %d, %d", len(most), len(l), e)
	}
	for _, s := range []string{Join(strings.Repeat("x", api.MaxText-15)), strings.Repeat("x", api.MaxText+1)} {
		if l, e := Split(s); e != api.ErrLong || len(l) != 0 {
			t.Errorf("of %d bytes: %d, %d", len(s), len(l), e)
		}
	}
	if _, e := Split(strings.Repeat("x", api.MaxText)); e != api.ErrForm {
		t.Errorf("bytes at the limit that are no parts: %d", e)
	}
	all := Join(make([]string, api.MaxText/8-1)...)
	if l, e := Split(all); e != api.OK || len(l) != api.MaxText/8-1 {
		t.Errorf("as many parts as can be: %d, %d", len(l), e)
	}
}

// P1.2: what is joined is split into the same parts.
func TestThereAndBack(t *testing.T) {
	r := rand.New(rand.NewSource(1))
	seen := map[string][]string{}
	for range 5000 {
		parts := make([]string, r.Intn(4))
		for i := range parts {
			parts[i] = strings.Repeat(string([]byte{byte(r.Intn(2))}), r.Intn(3)) + Num(r.Intn(3))[:r.Intn(9)]
		}
		s := Join(parts...)
		if got, e := Split(s); e != api.OK || !slices.Equal(got, parts) {
			t.Fatalf("%q: %q, %d", parts, got, e)
		}
		if elder, ok := seen[s]; ok && !slices.Equal(elder, parts) {
			t.Fatalf("%q and %q are joined to one text", elder, parts)
		}
		seen[s] = parts
	}
}

// P1.2: what is split is what its parts are joined to, whatever bytes are turned.
func TestBackAndThere(t *testing.T) {
	r := rand.New(rand.NewSource(2))
	good := 0
	for range 20000 {
		b := []byte(Join("a", "", "bc"))
		b[r.Intn(len(b))] = byte(r.Intn(4))
		if l, e := Split(string(b)); e == api.OK {
			good++
			if Join(l...) != string(b) {
				t.Fatalf("%x is split into %q", b, l)
			}
		}
	}
	if good == 0 {
		t.Error("nothing was split")
	}
}

// P1.1: the list handed in stays as it is, and the answer's is new.
func TestLists(t *testing.T) {
	parts := []string{"a", "b", "spare"}
	Join(parts[:2]...)
	if !slices.Equal(parts, []string{"a", "b", "spare"}) {
		t.Error(parts)
	}
	s := Join("a", "b")
	one, _ := Split(s)
	one[0] = "x"
	if two, _ := Split(s); two[0] != "a" {
		t.Error("two answers share a list")
	}
}
