package vclock_test

import (
	"slices"

	"nursery/api"
)

const (
	least    = -1 << 63
	greatest = 1<<63 - 1
	most     = 32 // components of a clock
	maxInt   = 1 << 40
)

// sequences returns all sequences of n numbers of a list.
func sequences(n int, numbers ...int) []api.Clock {
	all := []api.Clock{{}}
	for range n {
		var longer []api.Clock
		for _, c := range all {
			for _, x := range numbers {
				longer = append(longer, append(slices.Clone(c), x))
			}
		}
		all = longer
	}
	return all
}

// randoms returns a function that returns the next number of a fixed sequence, from 0 to n - 1.
func randoms(seed int) func(n int) int {
	x := uint64(seed)
	return func(n int) int {
		x = x*6364136223846793005 + 1442695040888963407
		return int(x >> 20 % uint64(n))
	}
}

// families returns lists of valid clocks that have the same number of components in each list, and in different lists different ones.
func families() [][]api.Clock {
	l := [][]api.Clock{{nil}, sequences(1, 0, 1, 2, 255, 256, maxInt-1, maxInt), sequences(2, 0, 1, 2, 256, maxInt), sequences(3, 0, 1, maxInt), sequences(4, 0, 1)}
	for _, n := range []int{5, 16, most - 1, most} {
		l = append(l, longClocks(n))
	}
	return l
}

// longClocks returns clocks of n components, of which some are ordered, and some are not.
func longClocks(n int) []api.Clock {
	next := randoms(n)
	l := []api.Clock{make(api.Clock, n), slices.Repeat(api.Clock{1}, n), slices.Repeat(api.Clock{maxInt}, n)}
	for _, size := range []int{2, 3, 300, maxInt + 1} {
		c := make(api.Clock, n)
		for i := range c {
			c[i] = next(size)
		}
		first, last := slices.Clone(c), slices.Clone(c)
		first[0] = (first[0] + 1) % size
		last[n-1] = (last[n-1] + 1) % size
		l = append(l, c, first, last)
	}
	return l
}

// clocks returns the clocks of all families.
func clocks() []api.Clock {
	return slices.Concat(families()...)
}

// wrong is what is no clock, and the error by which Check says so.
type wrong struct {
	c api.Clock
	e api.Errno
}

func wrongs() []wrong {
	l := []wrong{
		{make(api.Clock, most+1), api.ErrLimit},
		{make(api.Clock, 20001), api.ErrLimit},
		{slices.Repeat(api.Clock{maxInt}, most+1), api.ErrLimit},
		{slices.Repeat(api.Clock{-1}, most+1), api.ErrLimit},
		{append(make(api.Clock, most), maxInt+1), api.ErrLimit},
		{append(api.Clock{-1}, make(api.Clock, most)...), api.ErrLimit},
	}
	for _, x := range []int{least, least + 1, -maxInt - 1, -maxInt, -2, -1, maxInt + 1, 1 << 41, 1 << 62, 1<<62 + 1, greatest} {
		for _, n := range []int{1, 2, 5, most} {
			for _, i := range []int{0, n / 2, n - 1} {
				c := make(api.Clock, n)
				c[i] = x
				full := slices.Repeat(api.Clock{maxInt}, n)
				full[i] = x
				l = append(l, wrong{c, api.ErrRange}, wrong{full, api.ErrRange})
			}
		}
	}
	return l
}

// notIndices returns numbers that are no indices of a clock of n components.
func notIndices(n int) []int {
	return []int{least, -maxInt, -2, -1, n, n + 1, most + n, maxInt, greatest}
}

// atMost reports whether a is less than or equal to b, by the definition.
func atMost(a, b api.Clock) bool {
	for i := range a {
		if a[i] > b[i] {
			return false
		}
	}
	return true
}

// isBefore reports whether a is before b, by the definition.
func isBefore(a, b api.Clock) bool {
	return atMost(a, b) && !slices.Equal(a, b)
}

// expectedEncoding returns the encoding of a list of numbers from 0.
func expectedEncoding(c []int) string {
	var out []byte
	for _, n := range c {
		var digits []byte
		for ; n > 0; n /= 256 {
			digits = slices.Insert(digits, 0, byte(n%256))
		}
		out = append(out, byte(128+len(digits)))
		out = append(out, digits...)
	}
	return string(append(out, 1))
}

// expectedDecoding returns the clock whose encoding is s, or false.
func expectedDecoding(s string) (api.Clock, bool) {
	var c api.Clock
	for len(s) > 0 && s[0] != 1 {
		k := int(s[0]) - 128
		if k < 0 || k > 6 || len(s) <= k || k > 0 && s[1] == 0 {
			return nil, false
		}
		n := 0
		for _, b := range []byte(s[1 : 1+k]) {
			n = n*256 + int(b)
		}
		if n > maxInt {
			return nil, false
		}
		c, s = append(c, n), s[1+k:]
	}
	if s != "\x01" || len(c) > most {
		return nil, false
	}
	return c, true
}

// shortStrings returns all strings of at most five bytes that are some of those that matter.
func shortStrings() []string {
	var l []string
	for size := range 6 {
		for _, numbers := range sequences(size, 0, 1, 2, 0x7e, 0x7f, 0x80, 0x81, 0x82, 0xff) {
			var s []byte
			for _, n := range numbers {
				s = append(s, byte(n))
			}
			l = append(l, string(s))
		}
	}
	return l
}

// sampleStrings returns strings of which some are encodings of clocks, and others are not: short ones, encodings, and encodings with a change.
func sampleStrings() []string {
	l := shortStrings()
	for _, c := range clocks() {
		l = append(l, changes(expectedEncoding(c))...)
	}
	for _, n := range []int{maxInt, maxInt + 1, maxInt + 256, 1<<41 - 1, 1 << 48, 1 << 62} {
		for _, size := range []int{1, 2, most, most + 1} {
			l = append(l, expectedEncoding(slices.Repeat([]int{n}, size)))
		}
	}
	for _, n := range []int{most, most + 1, most + 2, 20000, 20001} {
		l = append(l, expectedEncoding(make([]int, n)))
	}
	return l
}

// changes returns a string, its beginnings, longer strings, and strings that differ from it in one byte.
func changes(s string) []string {
	l := []string{s, s + s, "\x01" + s, "\x80" + s}
	for _, suffix := range []string{"\x00", "\x01", "\x7f", "\x80", "\xff", "nursery"} {
		l = append(l, s+suffix)
	}
	for i := range len(s) {
		l = append(l, s[:i])
		for _, b := range []byte{0, 1, 0x7f, 0x80, 0x81, 0x86, 0x87, 0xff, s[i] + 1, s[i] - 1} {
			l = append(l, s[:i]+string([]byte{b})+s[i+1:])
		}
	}
	return l
}
