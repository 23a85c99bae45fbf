package frame

import (
	"bytes"
	"encoding/binary"
	"hash/crc32"
	"math/rand"
	"slices"
	"strings"
	"testing"

	"seiche/api"
)

// P4.1: check sums that are known, and those of any bytes.
func TestCheck(t *testing.T) {
	for s, want := range map[string]uint32{"": 0, "123456789": 0xe3069283, strings.Repeat("\x00", 32): 0x8a9136aa, strings.Repeat("\xff", 32): 0x62a8ab43} {
		if got := Check(s); got != want {
			t.Errorf("Check(%q) = %08x, want %08x", s, got, want)
		}
	}
	r := rand.New(rand.NewSource(1))
	table := crc32.MakeTable(crc32.Castagnoli)
	for n := range 200 {
		b := make([]byte, n)
		r.Read(b)
		if got := Check(string(b)); got != crc32.Checksum(b, table) {
			t.Errorf("Check(%x) = %08x", b, got)
		}
	}
}

// record is a record's bytes as the document tells them.
func record(s string) []byte {
	b := binary.LittleEndian.AppendUint32(nil, uint32(len(s)))
	b = binary.LittleEndian.AppendUint32(b, crc32.Checksum([]byte(s), crc32.MakeTable(crc32.Castagnoli)))
	return append(b, s...)
}

// P4.1: what is put stands behind what was there; one too long is passed over.
func TestPut(t *testing.T) {
	if got := Put(nil); len(got) != 0 {
		t.Error(got)
	}
	if got := Put([]byte{1, 2}, "", "ab"); !bytes.Equal(got, slices.Concat([]byte{1, 2}, make([]byte, 8), record("ab"))) {
		t.Error(got)
	}
	most, more := strings.Repeat("x", api.MaxRecord), strings.Repeat("x", api.MaxRecord+1)
	if got := Put(nil, "a", more, most, more, "b"); !bytes.Equal(got, slices.Concat(record("a"), record(most), record("b"))) {
		t.Errorf("%d bytes", len(got))
	}
}

// P4.1: neither the bytes handed in nor their spare room are changed, nor are they kept.
func TestPutMemory(t *testing.T) {
	b := []byte{1, 2, 3, 4, 5, 6, 7, 8, 9, 10, 11, 12, 13, 14, 15}
	got := Put(b[:2], "a")
	if !bytes.Equal(b, []byte{1, 2, 3, 4, 5, 6, 7, 8, 9, 10, 11, 12, 13, 14, 15}) {
		t.Error(b)
	}
	b[0] = 9
	if got[0] != 1 {
		t.Error("the answer shares memory with what was handed in")
	}
	r := Put(nil, "abc")
	list, _ := Split(r)
	r[9] = 'x'
	if list[0] != "abc" {
		t.Error("a record shares memory with the bytes")
	}
}

// P4.1: a record stands whole just if its length can be, its bytes are there, and its check sum is right.
func TestSplit(t *testing.T) {
	long := strings.Repeat("x", api.MaxRecord+1)
	for _, x := range []struct {
		b    []byte
		list []string
		n    int
	}{
		{nil, nil, 0},
		{make([]byte, 7), nil, 0},
		{make([]byte, 8), []string{""}, 8},
		{make([]byte, 17), []string{"", ""}, 16},
		{[]byte{0xff, 0xff, 0xff, 0xff, 0, 0, 0, 0, 1, 2, 3}, nil, 0},
		{[]byte{0, 0, 0, 0x80, 0, 0, 0, 0, 1, 2, 3}, nil, 0},
		{record(long), nil, 0},
		{record(long[1:]), []string{long[1:]}, 8 + api.MaxRecord},
		{slices.Concat(record("a"), []byte("junk that is no record")), []string{"a"}, 9},
		{slices.Concat(record("a"), []byte{1, 0, 0, 0, 0, 0, 0, 0, 'a'}, record("b")), []string{"a"}, 9},
	} {
		list, n := Split(x.b)
		if !slices.Equal(list, x.list) || n != x.n {
			t.Errorf("%.40x: %d records, %d bytes", x.b, len(list), n)
		}
	}
}

// P4.2: what is put is split whole; cut off anywhere, or with a byte turned in the last one, those ahead are.
func TestThereAndBack(t *testing.T) {
	r := rand.New(rand.NewSource(2))
	for range 200 {
		list := make([]string, r.Intn(5))
		ends := []int{0}
		for i := range list {
			b := make([]byte, r.Intn(12))
			r.Read(b)
			list[i] = string(b)
			ends = append(ends, ends[i]+8+len(b))
		}
		b := Put(nil, list...)
		if got, n := Split(b); !slices.Equal(got, list) || n != len(b) {
			t.Fatalf("%q: %q, %d", list, got, n)
		}
		for i := range b {
			k, _ := slices.BinarySearch(ends, i+1)
			if got, n := Split(b[:i]); !slices.Equal(got, list[:k-1]) || n != ends[k-1] {
				t.Fatalf("%q cut at %d: %q, %d", list, i, got, n)
			}
			if k != len(list) {
				continue
			}
			torn := slices.Clone(b)
			torn[i] = ^torn[i]
			if got, n := Split(torn); !slices.Equal(got, list[:k-1]) || n != ends[k-1] {
				t.Fatalf("%q turned at %d: %q, %d", list, i, got, n)
			}
		}
	}
}
