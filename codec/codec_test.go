package codec_test

import (
	"hash/fnv"
	"math/big"
	"slices"
	"strings"
	"testing"

	"nursery/api"
	"nursery/codec"
)

const (
	limit   = 1 << 62
	maxText = 100000
	maxList = 20000
)

// suffixes may follow an encoding without changing what is read.
var suffixes = []string{"", "\x00", "\x00\x01", "\x01", "\x7f", "\x80", "\x81", "\xff", "\xffx\x00\xff"}

// sampleInts returns integers around every power of two, ascending.
func sampleInts() []int {
	l := []int{0}
	for i := range 63 {
		for d := -2; d <= 2; d++ {
			for _, n := range []int{1<<i + d, -1<<i + d} {
				if -limit <= n && n <= limit {
					l = append(l, n)
				}
			}
		}
	}
	for n := -300; n <= 300; n++ {
		l = append(l, n)
	}
	slices.Sort(l)
	return slices.Compact(l)
}

// words returns all strings of at most size bytes over an alphabet.
func words(alphabet string, size int) []string {
	all := []string{""}
	last := all
	for range size {
		var next []string
		for _, w := range last {
			for i := range len(alphabet) {
				next = append(next, w+alphabet[i:i+1])
			}
		}
		all = append(all, next...)
		last = next
	}
	return all
}

// sampleTexts returns texts with bytes that are special in encodings or beside such ones, ascending.
func sampleTexts() []string {
	l := words("\x00\x01\x02a\xfe\xff", 3)
	l = append(l, "nursery", "\xc3\xa9\xe2\x82\xac", strings.Repeat("\x00", 300), strings.Repeat("\x00\xff", 300), strings.Repeat("ab\x00", 100))
	slices.Sort(l)
	return slices.Compact(l)
}

// sampleLists returns lists of which many begin with others, ascending.
func sampleLists() [][]int {
	ns := []int{-limit, -257, -256, -2, -1, 0, 1, 5, 255, 256, limit}
	l := [][]int{nil}
	for _, a := range ns {
		l = append(l, []int{a})
		for _, b := range ns {
			l = append(l, []int{a, b})
			for _, c := range []int{-1, 0, 1, 256} {
				l = append(l, []int{a, b, c})
			}
		}
	}
	slices.SortFunc(l, slices.Compare)
	return l
}

// expectedInt encodes n as the definition says, on numbers of any size.
func expectedInt(n int) string {
	if n >= 0 {
		digits := big.NewInt(int64(n)).Bytes()
		return string(append([]byte{byte(128 + len(digits))}, digits...))
	}
	m := new(big.Int).Neg(big.NewInt(int64(n)))
	digits := m.Sub(m, big.NewInt(1)).Bytes()
	for i := range digits {
		digits[i] = 255 - digits[i]
	}
	return string(append([]byte{byte(127 - len(digits))}, digits...))
}

// expectedText encodes t as the definition says.
func expectedText(t string) string {
	return strings.ReplaceAll(t, "\x00", "\x00\xff") + "\x00\x01"
}

// expectedList encodes l as the definition says.
func expectedList(l []int) string {
	s := ""
	for _, n := range l {
		s += expectedInt(n)
	}
	return s + "\x01"
}

// expectedReadInt reads an integer as the definition says.
func expectedReadInt(s string) (int, int, api.Errno) {
	if s == "" {
		return 0, 0, api.ErrShort
	}
	first := int(s[0])
	if first < 119 || first > 136 {
		return 0, 0, api.ErrDecode
	}
	k := first - 128
	if first < 128 {
		k = 127 - first
	}
	if len(s) < 1+k {
		return 0, 0, api.ErrShort
	}
	digits := []byte(s[1 : 1+k])
	if first < 128 {
		for i := range digits {
			digits[i] = 255 - digits[i]
		}
	}
	n := new(big.Int).SetBytes(digits)
	if first < 128 {
		n.Neg(n.Add(n, big.NewInt(1)))
	}
	if n.CmpAbs(big.NewInt(limit)) > 0 || expectedInt(int(n.Int64())) != s[:1+k] {
		return 0, 0, api.ErrDecode
	}
	return int(n.Int64()), 1 + k, api.OK
}

// intAlphabet has the ends of the range of first bytes, their neighbours, and the bytes with which digits are too many.
const intAlphabet = "\x00\x01\x3f\x40\x76\x77\x7d\x7e\x7f\x80\x81\x82\x88\x89\xbf\xc0\xfe\xff"

// intBytes returns strings that are encodings of integers, nearly so, or not at all.
func intBytes() []string {
	l := words(intAlphabet, 4)
	for _, n := range sampleInts() {
		s := expectedInt(n)
		for i := range len(s) {
			l = append(l, s[:i])
			for j := range len(intAlphabet) {
				l = append(l, s[:i]+intAlphabet[j:j+1]+s[i+1:], s[:i]+intAlphabet[j:j+1]+s[i:])
			}
		}
	}
	for first := range 256 {
		for k := range 10 {
			for _, digit := range []string{"\x00", "\x01", "\x7f", "\xfe", "\xff"} {
				l = append(l, string([]byte{byte(first)})+strings.Repeat(digit, k))
			}
		}
	}
	return l
}

func checkInt(t *testing.T, promise string, n int) {
	t.Helper()
	if s, e := codec.Int(n); s != expectedInt(n) || e != api.OK {
		t.Errorf("%s: Int(%d): %x, %d", promise, n, s, e)
	}
}

func checkReadInt(t *testing.T, promise, s string, n, size int, e api.Errno) {
	t.Helper()
	if n1, size1, e1 := codec.ReadInt(s); n1 != n || size1 != size || e1 != e {
		t.Errorf("%s: ReadInt(%x): %d, %d, %d instead of %d, %d, %d", promise, s, n1, size1, e1, n, size, e)
	}
}

func checkReadText(t *testing.T, promise, s, text string, size int, e api.Errno) {
	t.Helper()
	if text1, size1, e1 := codec.ReadText(s); text1 != text || size1 != size || e1 != e {
		t.Errorf("%s: ReadText of %d bytes, %.40x: %d bytes, %d, %d instead of %d bytes, %d, %d", promise, len(s), s, len(text1), size1, e1, len(text), size, e)
	}
}

func checkReadList(t *testing.T, promise, s string, l []int, size int, e api.Errno) {
	t.Helper()
	if l1, size1, e1 := codec.ReadList(s); !slices.Equal(l1, l) || size1 != size || e1 != e {
		t.Errorf("%s: ReadList of %d bytes, %.40x: %d elements, %d, %d instead of %d elements, %d, %d", promise, len(s), s, len(l1), size1, e1, len(l), size, e)
	}
}

func TestP1_1Int(t *testing.T) {
	for _, c := range []struct {
		n int
		s string
	}{{0, "\x80"}, {5, "\x81\x05"}, {256, "\x82\x01\x00"}, {-1, "\x7f"}, {-2, "\x7e\xfe"}, {-256, "\x7e\x00"}, {-257, "\x7d\xfe\xff"}, {limit, "\x88\x40\x00\x00\x00\x00\x00\x00\x00"}, {-limit, "\x77\xc0\x00\x00\x00\x00\x00\x00\x00"}} {
		if s, e := codec.Int(c.n); s != c.s || e != api.OK {
			t.Errorf("P1.1: Int(%d): %x, %d", c.n, s, e)
		}
	}
	for _, n := range sampleInts() {
		checkInt(t, "P1.1", n)
	}
	for n := -70000; n <= 70000; n++ {
		checkInt(t, "P1.1", n)
	}
	for _, n := range []int{limit + 1, limit + 2, -limit - 1, -limit - 2, 1<<63 - 1, -1 << 63, -1<<63 + 1} {
		if s, e := codec.Int(n); s != "" || e != api.ErrRange {
			t.Errorf("P1.1: Int(%d): %x, %d", n, s, e)
		}
	}
}

func TestP1_1ReadInt(t *testing.T) {
	for _, s := range intBytes() {
		n, size, e := expectedReadInt(s)
		checkReadInt(t, "P1.1", s, n, size, e)
	}
}

func TestP1_1ReadIntErrors(t *testing.T) {
	for _, c := range []struct {
		s string
		e api.Errno
	}{
		{"", api.ErrShort},
		{"\x76", api.ErrDecode}, {"\x89", api.ErrDecode}, {"\x00", api.ErrDecode}, {"\xff", api.ErrDecode},
		{"\x81", api.ErrShort}, {"\x7e", api.ErrShort}, {"\x88\x01\x02\x03\x04\x05\x06\x07", api.ErrShort},
		{"\x82\x00", api.ErrShort}, {"\x7d\xff", api.ErrShort}, {"\x88\xff\xff", api.ErrShort}, {"\x77\x00", api.ErrShort},
		{"\x81\x00", api.ErrDecode}, {"\x7e\xff", api.ErrDecode}, {"\x82\x00\xff", api.ErrDecode}, {"\x7d\xff\x00", api.ErrDecode},
		{"\x88\x40\x00\x00\x00\x00\x00\x00\x01", api.ErrDecode}, {"\x88\x80\x00\x00\x00\x00\x00\x00\x00", api.ErrDecode}, {"\x88\xff\xff\xff\xff\xff\xff\xff\xff", api.ErrDecode},
		{"\x77\xbf\xff\xff\xff\xff\xff\xff\xff", api.ErrDecode}, {"\x77\x80\x00\x00\x00\x00\x00\x00\x00", api.ErrDecode}, {"\x77\x00\x00\x00\x00\x00\x00\x00\x00", api.ErrDecode},
		{"\x88\x00\x40\x00\x00\x00\x00\x00\x00", api.ErrDecode},
	} {
		checkReadInt(t, "P1.1", c.s, 0, 0, c.e)
	}
}

func TestP1_1Text(t *testing.T) {
	for _, u := range append(sampleTexts(), strings.Repeat("x", maxText), strings.Repeat("\x00", maxText)) {
		if s, e := codec.Text(u); s != expectedText(u) || e != api.OK {
			t.Errorf("P1.1: Text of %d bytes, %.40x: %.80x, %d", len(u), u, s, e)
		}
	}
	if s, e := codec.Text("a\x00"); s != "a\x00\xff\x00\x01" || e != api.OK {
		t.Errorf("P1.1: Text: %x, %d", s, e)
	}
	for _, u := range []string{strings.Repeat("x", maxText+1), strings.Repeat("\x00", maxText+1), strings.Repeat("x", 3*maxText)} {
		if s, e := codec.Text(u); s != "" || e != api.ErrLimit {
			t.Errorf("P1.1: Text of %d bytes: %d bytes, %d", len(u), len(s), e)
		}
	}
}

func TestP1_1ReadText(t *testing.T) {
	full, zeros := strings.Repeat("x", maxText), strings.Repeat("\x00\xff", maxText)
	for _, c := range []struct {
		s, text string
		size    int
		e       api.Errno
	}{
		{"\x00\x01", "", 2, api.OK},
		{"ab\x00\x01cd", "ab", 4, api.OK},
		{"\x01\xff\x00\xff\x00\x01", "\x01\xff\x00", 6, api.OK},
		{full + "\x00\x01", full, maxText + 2, api.OK},
		{zeros + "\x00\x01", strings.Repeat("\x00", maxText), 2*maxText + 2, api.OK},
		{"", "", 0, api.ErrShort},
		{"a", "", 0, api.ErrShort},
		{"\x00", "", 0, api.ErrShort},
		{"\x00\xff", "", 0, api.ErrShort},
		{"a\x00\xff\x00", "", 0, api.ErrShort},
		{"\x00\x00", "", 0, api.ErrDecode},
		{"a\x00\x02\x00\x01", "", 0, api.ErrDecode},
		{"\x00\xfe", "", 0, api.ErrDecode},
		{"\x00\xff\x00\x80", "", 0, api.ErrDecode},
		{full, "", 0, api.ErrShort},
		{full + "\x00", "", 0, api.ErrShort},
		{full + "\x00\x02", "", 0, api.ErrDecode},
		{full + "\x00\xff", "", 0, api.ErrLimit},
		{full + "\x00\xff\x00\x02", "", 0, api.ErrLimit},
		{full + "x", "", 0, api.ErrLimit},
		{full + "x\x00\x02", "", 0, api.ErrLimit},
		{full + "x\x00\x01", "", 0, api.ErrLimit},
		{zeros + "\x00\xff", "", 0, api.ErrLimit},
		{"\x00\x02" + full + "x", "", 0, api.ErrDecode},
	} {
		checkReadText(t, "P1.1", c.s, c.text, c.size, c.e)
	}
}

func TestP1_1List(t *testing.T) {
	ones := slices.Repeat([]int{1}, maxList)
	for _, l := range append(sampleLists(), sampleInts(), ones) {
		given := slices.Clone(l)
		if s, e := codec.List(l); s != expectedList(l) || e != api.OK {
			t.Errorf("P1.1: List of %d elements: %.80x, %d", len(l), s, e)
		}
		if !slices.Equal(l, given) {
			t.Errorf("P1.1: List changes its argument %d", given)
		}
	}
	for _, c := range []struct {
		l []int
		e api.Errno
	}{
		{[]int{limit + 1}, api.ErrRange},
		{[]int{1, 2, -limit - 1}, api.ErrRange},
		{[]int{-1 << 63, 0}, api.ErrRange},
		{append(slices.Clone(ones[1:]), 1<<63-1), api.ErrRange},
		{append(slices.Clone(ones), 1), api.ErrLimit},
		{append([]int{limit + 1}, ones...), api.ErrLimit},
	} {
		if s, e := codec.List(c.l); s != "" || e != c.e {
			t.Errorf("P1.1: List of %d elements: %d bytes, %d instead of %d", len(c.l), len(s), e, c.e)
		}
	}
}

func TestP1_1ReadList(t *testing.T) {
	full := strings.Repeat("\x80", maxList)
	for _, c := range []struct {
		s    string
		l    []int
		size int
		e    api.Errno
	}{
		{"\x01", nil, 1, api.OK},
		{"\x81\x05\x7f\x01", []int{5, -1}, 4, api.OK},
		{"\x81\x01\x01\x01", []int{1}, 3, api.OK},
		{"\x7e\x01\x01", []int{-255}, 3, api.OK},
		{full + "\x01", make([]int, maxList), maxList + 1, api.OK},
		{"", nil, 0, api.ErrShort},
		{"\x80", nil, 0, api.ErrShort},
		{"\x80\x82\x01", nil, 0, api.ErrShort},
		{"\x80\x00\x01", nil, 0, api.ErrDecode},
		{"\x80\x76\x01", nil, 0, api.ErrDecode},
		{"\x80\x02", nil, 0, api.ErrDecode},
		{"\x81\x00\x01", nil, 0, api.ErrDecode},
		{"\x80\x88\x40\x00\x00\x00\x00\x00\x00\x01\x01", nil, 0, api.ErrDecode},
		{full, nil, 0, api.ErrShort},
		{full + "\x80\x01", nil, 0, api.ErrLimit},
		{full + "\x02", nil, 0, api.ErrLimit},
		{full + "\x81", nil, 0, api.ErrLimit},
		{full[1:] + "\x02", nil, 0, api.ErrDecode},
		{full[1:] + "\x81", nil, 0, api.ErrShort},
	} {
		checkReadList(t, "P1.1", c.s, c.l, c.size, c.e)
	}
}

func TestP1_1Hash(t *testing.T) {
	if h := codec.Hash(""); h != (14695981039346656037^14695981039346656037>>40)%(1<<40) {
		t.Errorf("P1.1: Hash of the empty string: %d", h)
	}
	for _, s := range append(sampleTexts(), strings.Repeat("x", 1000)) {
		f := fnv.New64a()
		f.Write([]byte(s))
		sum := new(big.Int).SetUint64(f.Sum64())
		high, mod := new(big.Int).Rsh(sum, 40), big.NewInt(1<<40)
		want := new(big.Int).Mod(sum.Xor(sum, high), mod).Int64()
		if h := codec.Hash(s); int64(h) != want {
			t.Errorf("P1.1: Hash(%.40x): %d instead of %d", s, h, want)
		}
	}
}

func TestP1_2RoundTripInt(t *testing.T) {
	for _, n := range sampleInts() {
		s, _ := codec.Int(n)
		for _, suffix := range suffixes {
			checkReadInt(t, "P1.2", s+suffix, n, len(s), api.OK)
		}
	}
}

func TestP1_2RoundTripText(t *testing.T) {
	for _, u := range append(sampleTexts(), strings.Repeat("\x00x", maxText/2)) {
		s, _ := codec.Text(u)
		for _, suffix := range suffixes {
			checkReadText(t, "P1.2", s+suffix, u, len(s), api.OK)
		}
	}
}

func TestP1_2RoundTripList(t *testing.T) {
	for _, l := range append(sampleLists(), sampleInts(), make([]int, maxList)) {
		s, _ := codec.List(l)
		for _, suffix := range suffixes {
			checkReadList(t, "P1.2", s+suffix, l, len(s), api.OK)
		}
	}
}

func TestP1_3CanonicalInt(t *testing.T) {
	for _, s := range intBytes() {
		n, size, e := codec.ReadInt(s)
		if e != api.OK {
			continue
		}
		if again, e := codec.Int(n); e != api.OK || again != s[:size] {
			t.Errorf("P1.3: ReadInt(%x): %d, which is encoded as %x", s, n, again)
		}
	}
}

func TestP1_3CanonicalText(t *testing.T) {
	for _, s := range words("\x00\x01\x02a\xfe\xff", 6) {
		u, size, e := codec.ReadText(s)
		if e != api.OK {
			continue
		}
		if again, e := codec.Text(u); e != api.OK || again != s[:size] {
			t.Errorf("P1.3: ReadText(%x): %x, which is encoded as %x", s, u, again)
		}
	}
}

func TestP1_3CanonicalList(t *testing.T) {
	for _, s := range words("\x00\x01\x7d\x7e\x7f\x80\x81\x82\xff", 5) {
		l, size, e := codec.ReadList(s)
		if e != api.OK {
			continue
		}
		if again, e := codec.List(l); e != api.OK || again != s[:size] {
			t.Errorf("P1.3: ReadList(%x): %d, which is encoded as %x", s, l, again)
		}
	}
}

// checkOrder tests P1.4 and P1.5 for the encodings of different values in ascending order.
func checkOrder(t *testing.T, encodings []string) {
	t.Helper()
	for i, a := range encodings {
		for _, b := range encodings[i+1:] {
			if a >= b {
				t.Errorf("P1.4: %.40x does not come before %.40x", a, b)
			}
			if strings.HasPrefix(a, b) || strings.HasPrefix(b, a) {
				t.Errorf("P1.5: one of %.40x and %.40x begins with the other one", a, b)
			}
		}
	}
}

func TestP1_4P1_5Ints(t *testing.T) {
	var encodings []string
	for _, n := range sampleInts() {
		s, _ := codec.Int(n)
		encodings = append(encodings, s)
	}
	checkOrder(t, encodings)
}

func TestP1_4P1_5Texts(t *testing.T) {
	var encodings []string
	for _, u := range sampleTexts() {
		s, _ := codec.Text(u)
		encodings = append(encodings, s)
	}
	checkOrder(t, encodings)
}

func TestP1_4P1_5Lists(t *testing.T) {
	var encodings []string
	for _, l := range sampleLists() {
		s, _ := codec.List(l)
		encodings = append(encodings, s)
	}
	checkOrder(t, encodings)
}

// sequence returns the encodings of the elements of l one after the other.
func sequence(t *testing.T, l []int) string {
	t.Helper()
	all := ""
	for _, n := range l {
		s, e := codec.Int(n)
		if e != api.OK {
			t.Fatalf("P1.6: Int(%d): %d", n, e)
		}
		all += s
	}
	return all
}

func TestP1_6SequencesDetermineIntegers(t *testing.T) {
	for _, l := range append(sampleLists(), sampleInts()) {
		rest := sequence(t, l)
		var read []int
		for rest != "" {
			n, size, e := codec.ReadInt(rest)
			if e != api.OK {
				t.Fatalf("P1.6: ReadInt(%.40x): %d", rest, e)
			}
			read = append(read, n)
			rest = rest[size:]
		}
		if !slices.Equal(read, l) {
			t.Errorf("P1.6: %d is read as %d", l, read)
		}
	}
}

func TestP1_6SequencesAreOrdered(t *testing.T) {
	var encodings []string
	for _, l := range sampleLists() {
		encodings = append(encodings, sequence(t, l))
	}
	for i, a := range encodings {
		for _, b := range encodings[i+1:] {
			if a >= b {
				t.Errorf("P1.6: the sequence %x does not come before %x", a, b)
			}
		}
	}
}
