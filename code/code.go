// Package code is layer 1: texts joined into one, so that it can be read in one way only. See shared/doc/01-code.md.
package code

import (
	"strings"

	"seiche/api"
)

// width is how many bytes a number has.
const width = 8

// Num: a number's eight bytes, the highest first.
func Num(n int) string {
	var b [width]byte
	for i := range width {
		b[i] = byte(uint64(n) >> (8 * (width - 1 - i)))
	}
	return string(b[:])
}

// ReadNum: the number that a text begins with; false: it is too short.
func ReadNum(s string) (int, bool) {
	if len(s) < width {
		return 0, false
	}
	var n uint64
	for i := range width {
		n = n<<8 | uint64(s[i])
	}
	return int(n), true
}

// Join: how many parts there are, and each one's length and bytes.
func Join(parts ...string) string {
	size := width
	for _, p := range parts {
		size += width + len(p)
	}
	var b strings.Builder
	b.Grow(size)
	b.WriteString(Num(len(parts)))
	for _, p := range parts {
		b.WriteString(Num(len(p)))
		b.WriteString(p)
	}
	return b.String()
}

// Split: the parts that a text was joined of; ErrLong, ErrForm.
func Split(s string) ([]string, api.Errno) {
	if len(s) > api.MaxText {
		return nil, api.ErrLong
	}
	count, ok := ReadNum(s)
	// Each part has a number of its own: a count that can't be is refused ahead of going through them.
	if !ok || count < 0 || count > len(s)/width {
		return nil, api.ErrForm
	}
	parts := make([]string, 0, count)
	rest := s[width:]
	for range count {
		part, behind, ok := cut(rest)
		if !ok {
			return nil, api.ErrForm
		}
		parts = append(parts, part)
		rest = behind
	}
	if rest != "" {
		return nil, api.ErrForm
	}
	return parts, api.OK
}

// cut takes one part off a text's beginning; false: none stands there whole.
func cut(s string) (string, string, bool) {
	size, ok := ReadNum(s)
	if !ok || size < 0 || size > len(s)-width {
		return "", "", false
	}
	return s[width : width+size], s[width+size:], true
}
