package sha

import (
	"crypto/sha256"
	"encoding/hex"
	"math/rand"
	"strings"
	"testing"

	"seiche/api"
	"seiche/code"
)

// P2.1: digests that are known.
func TestKnown(t *testing.T) {
	for s, want := range map[string]string{
		"":    "e3b0c44298fc1c149afbf4c8996fb92427ae41e4649b934ca495991b7852b855",
		"abc": "ba7816bf8f01cfea414140de5dae2223b00361a396177a9cb410ff61f20015ad",
		"abcdbcdecdefdefgefghfghighijhijkijkljklmklmnlmnomnopnopq": "248d6a61d20638b8e5c026930c3e6039a33ce45964ff2167f6ecedd419db06c1",
		strings.Repeat("a", 1000000):                               "cdc76e5c9914fb9281a1c7e284d73e67f1809a48a497200e046d39ccc7112cd0",
	} {
		if got := Hex(Of(s)); got != want {
			t.Errorf("of %d bytes: %s, want %s", len(s), got, want)
		}
	}
}

// P2.1: texts of all lengths about a block's end, of any bytes.
func TestLengths(t *testing.T) {
	r := rand.New(rand.NewSource(1))
	for n := range 300 {
		b := make([]byte, n)
		r.Read(b)
		if got := Of(string(b)); got != api.Id(sha256.Sum256(b)) {
			t.Errorf("of %d bytes: %s", n, Hex(got))
		}
	}
	for _, n := range []int{4095, 4096, 4097, 1<<20 - 1, 1 << 20, 1<<20 + 55} {
		s := strings.Repeat("\xff", n)
		if got := Of(s); got != api.Id(sha256.Sum256([]byte(s))) {
			t.Errorf("of %d bytes: %s", n, Hex(got))
		}
	}
}

// P2.1: a digest for a purpose is that of the purpose and the parts, joined.
func TestSum(t *testing.T) {
	for _, parts := range [][]string{{"blob"}, {"", ""}, {"blob", "a", "b"}, {"tree", strings.Repeat("x", 200)}} {
		if got := Sum(parts[0], parts[1:]...); got != Of(code.Join(parts...)) {
			t.Errorf("%q: %s", parts, Hex(got))
		}
	}
}

// P2.1: 64 hexadecimal digits, small letters.
func TestHex(t *testing.T) {
	var d api.Id
	if got := Hex(d); got != strings.Repeat("0", 64) {
		t.Error(got)
	}
	for i := range d {
		d[i] = byte(i*37 + 5)
	}
	d[0], d[31] = 0xfe, 0x0a
	if got := Hex(d); got != hex.EncodeToString(d[:]) {
		t.Error(got)
	}
}

// P2.2: other parts, or another purpose, another digest.
func TestUnlike(t *testing.T) {
	lists := [][]string{
		{""}, {"", ""}, {"a"}, {"b"}, {"a", ""}, {"", "a"}, {"a", "b"}, {"b", "a"}, {"ab"}, {"ab", ""}, {"a", "b", ""}, {"a", "", "b"},
		{"", "a", "b"}, {"", "ab"}, {code.Join("a", "b")}, {"a", code.Join("b")},
	}
	seen := map[api.Id][]string{}
	for _, l := range lists {
		d := Sum(l[0], l[1:]...)
		if elder, ok := seen[d]; ok {
			t.Errorf("%q and %q have one digest", elder, l)
		}
		seen[d] = l
	}
}

// P2.1: the list handed in stays as it is, spare room included.
func TestSpareRoom(t *testing.T) {
	parts := []string{"a", "b", "spare"}
	Sum("p", parts[:2]...)
	if parts[0] != "a" || parts[1] != "b" || parts[2] != "spare" {
		t.Error(parts)
	}
}
