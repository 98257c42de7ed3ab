// Package codec provides order-preserving, self-delimiting encodings of integers, texts and lists: see shared/doc/01-codec.md.
package codec

import (
	"iter"
	"math/bits"
	"strings"

	"nursery/api"
)

const (
	maxInt    = 1 << 62 // absolute values of integers
	maxDigits = 8       // bytes of an integer behind the first one
	maxText   = 100000  // bytes of a text
	maxList   = 20000   // elements of a list

	zeroInt  = 128 // the encoding of 0, and with k added the first byte of an integer with k digits
	zeroMark = 255 // stands behind each byte 0 of a text
	endMark  = 1   // ends a list, and behind a byte 0 a text
)

// Int returns the encoding of an integer.
func Int(n int) (string, api.Errno) {
	if !inRange(n) {
		return "", api.ErrRange
	}
	var out strings.Builder
	writeInt(&out, n)
	return out.String(), api.OK
}

// ReadInt returns the integer with whose encoding a string begins, and the size of this.
func ReadInt(s string) (int, int, api.Errno) {
	r := reader{source: s}
	return results(&r, r.integer)
}

// Text returns the encoding of a text.
func Text(t string) (string, api.Errno) {
	if len(t) > maxText {
		return "", api.ErrLimit
	}
	var out strings.Builder
	for i := range len(t) {
		out.WriteByte(t[i])
		if t[i] == 0 {
			out.WriteByte(zeroMark)
		}
	}
	out.WriteByte(0)
	out.WriteByte(endMark)
	return out.String(), api.OK
}

// ReadText returns the text with whose encoding a string begins, and the size of this.
func ReadText(s string) (string, int, api.Errno) {
	r := reader{source: s}
	return results(&r, r.text)
}

// List returns the encoding of a list.
func List(l []int) (string, api.Errno) {
	if len(l) > maxList {
		return "", api.ErrLimit
	}
	var out strings.Builder
	for _, n := range l {
		if !inRange(n) {
			return "", api.ErrRange
		}
		writeInt(&out, n)
	}
	out.WriteByte(endMark)
	return out.String(), api.OK
}

// ReadList returns the list with whose encoding a string begins, and the size of this.
func ReadList(s string) ([]int, int, api.Errno) {
	r := reader{source: s}
	return results(&r, r.list)
}

// Hash returns a hash of a string, from 0 to 2^40 - 1.
func Hash(s string) int {
	h := uint64(14695981039346656037)
	for i := range len(s) {
		h = (h ^ uint64(s[i])) * 1099511628211
	}
	return int((h ^ h>>40) % (1 << 40))
}

func inRange(n int) bool {
	return -maxInt <= n && n <= maxInt
}

func writeInt(out *strings.Builder, n int) {
	for b := range intBytes(n) {
		out.WriteByte(b)
	}
}

// intBytes yields the bytes of the encoding of n.
//
// The encoding of a negative n is that of -n - 1 with every bit inverted,
// because 127 - k and 128 + k add up to 255 too.
func intBytes(n int) iter.Seq[byte] {
	m, invert := uint64(n), byte(0)
	if n < 0 {
		m, invert = uint64(-n-1), 255
	}
	return func(yield func(byte) bool) {
		k := digits(m)
		if !yield(byte(zeroInt+k) ^ invert) {
			return
		}
		for i := k - 1; i >= 0; i-- {
			if !yield(byte(m>>(8*i)) ^ invert) {
				return
			}
		}
	}
}

// digits returns the least number of bytes with which m can be written.
func digits(m uint64) int {
	return (bits.Len64(m) + 7) / 8
}
