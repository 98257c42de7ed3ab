package codec

import (
	"strings"

	"nursery/api"
)

// reader reads values from a string, and remembers the first error: what its methods return after an error means nothing.
type reader struct {
	source string
	at     int
	failed api.Errno
}

// results returns what a method of r reads, the number of bytes read, and the error.
func results[T any](r *reader, read func() T) (T, int, api.Errno) {
	value := read()
	if r.failed != api.OK {
		var none T
		return none, 0, r.failed
	}
	return value, r.at, api.OK
}

func (r *reader) fail(e api.Errno) {
	if r.failed == api.OK {
		r.failed = e
	}
}

// next returns the next byte, or 0 if there is none.
func (r *reader) next() byte {
	if r.at == len(r.source) {
		r.fail(api.ErrShort)
		return 0
	}
	b := r.source[r.at]
	r.at++
	return b
}

func (r *reader) integer() int {
	first, invert := r.next(), byte(0)
	if first < zeroInt {
		invert = 255
	}
	k := int(first^invert) - zeroInt
	if k > maxDigits {
		r.fail(api.ErrDecode)
		return 0
	}
	m := uint64(0)
	for range k {
		m = m<<8 | uint64(r.next()^invert)
	}
	// The range of m is checked too, because a greater one would wrap around in n.
	n := int(m)
	if invert != 0 {
		n = -n - 1
	}
	if digits(m) != k || m > maxInt || !inRange(n) {
		r.fail(api.ErrDecode)
	}
	return n
}

func (r *reader) text() string {
	var out strings.Builder
	for {
		b, more := r.textByte()
		if !more {
			return out.String()
		}
		if out.Len() == maxText {
			r.fail(api.ErrLimit)
			return ""
		}
		out.WriteByte(b)
	}
}

// textByte returns the next byte of a text, or false at its end and after an error.
func (r *reader) textByte() (byte, bool) {
	b := r.next()
	if b != 0 || r.failed != api.OK {
		return b, r.failed == api.OK
	}
	mark := r.next()
	if mark != zeroMark && mark != endMark {
		r.fail(api.ErrDecode)
	}
	return 0, mark == zeroMark
}

func (r *reader) list() []int {
	var l []int
	for r.failed == api.OK {
		switch {
		case r.at == len(r.source):
			r.fail(api.ErrShort)
		case r.source[r.at] == endMark:
			r.at++
			return l
		case len(l) == maxList:
			r.fail(api.ErrLimit)
		default:
			l = append(l, r.integer())
		}
	}
	return nil
}
