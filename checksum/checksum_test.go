package checksum_test

import (
	"encoding/binary"
	"hash/adler32"
	"math/big"
	"strings"
	"testing"

	"nursery/api"
	"nursery/checksum"
	"nursery/codec"
)

const (
	modulus   = 65521
	shift     = 65536
	maxNumber = 1<<32 - 1
	maxText   = 100000
)

// suffixes may follow a frame without changing what is opened.
var suffixes = []string{"", "\x00", "\x80", "\x80\x00\x81\x00\x81", "\xff", "nursery", strings.Repeat("\xff", 300)}

// words returns all strings of at most size bytes over an alphabet.
func words(alphabet string, size int) []string {
	all := []string{""}
	last := all
	for range size {
		var next []string
		for _, w := range last {
			for i := range len(alphabet) {
				next = append(next, w+alphabet[i:i+1])
			}
		}
		all = append(all, next...)
		last = next
	}
	return all
}

// mixed returns a string of n bytes that follow no short pattern.
func mixed(n int) string {
	b := make([]byte, n)
	x := uint32(n)
	for i := range b {
		x = x*1664525 + 1013904223
		b[i] = byte(x >> 24)
	}
	return string(b)
}

// sampleStrings returns short strings, and strings with which both sums exceed the modulus, many times too.
func sampleStrings() []string {
	l := words("\x00\x01a\xff", 4)
	for b := range 256 {
		l = append(l, string([]byte{byte(b)}), string([]byte{byte(b), 'x', byte(b)}))
	}
	for _, n := range []int{5, 127, 128, 255, 256, 257, 258, 1000, 5552, 5553} {
		l = append(l, strings.Repeat("\x00", n), strings.Repeat("\xff", n), strings.Repeat("ab\x00", n), mixed(n))
	}
	return append(l, longStrings()...)
}

// longStrings returns strings with sizes around the modulus, the values of two bytes, and the limit of frames.
func longStrings() []string {
	var l []string
	for _, n := range []int{65520, 65521, 65522, 65535, 65536, 65537, maxText - 1, maxText} {
		l = append(l, strings.Repeat("\x00", n), strings.Repeat("\xff", n), mixed(n))
	}
	return l
}

// sampleSums returns checksums, with the ends of the ranges of both sums.
func sampleSums() []int {
	parts := []int{0, 1, 2, 98, 255, 256, 32767, 32768, 65279, 65519, 65520}
	var l []int
	for _, high := range parts {
		for _, low := range parts {
			l = append(l, high*shift+low)
		}
	}
	return l
}

// noSums returns numbers that are no checksums.
func noSums() []int {
	l := []int{-1, -2, -65535, -65536, -65537, -1 << 32, -1 << 62, -1 << 63, -1<<63 + 1, maxNumber, maxNumber + 1, maxNumber + 2, 1<<33 + 1, 1<<40 + 1, 1 << 62, 1<<63 - 1}
	for part := modulus; part < shift; part++ {
		l = append(l, part, part+shift, part+65520*shift, part*shift, part*shift+1, part*shift+65520, part*shift+part)
	}
	return l
}

// expectedUpdate adds the sums up as the definition says, and takes the remainders only at the end.
func expectedUpdate(sum int, s string) int {
	a, b := sum%shift, sum/shift
	for i := range len(s) {
		a += int(s[i])
		b += a
	}
	return b%modulus*shift + a%modulus
}

func expectedSum(s string) int {
	return expectedUpdate(1, s)
}

// expectedCombine computes what the chapter says, on numbers of any size.
func expectedCombine(a, b, n int) int {
	low := big.NewInt(int64(a%shift + b%shift - 1))
	high := new(big.Int).Mul(big.NewInt(int64(n)), big.NewInt(int64(a%shift-1)))
	high.Add(high, big.NewInt(int64(a/shift+b/shift)))
	m := big.NewInt(modulus)
	return int(high.Mod(high, m).Int64()*shift + low.Mod(low, m).Int64())
}

// sumBytes returns the bytes of a number, the most significant one first.
func sumBytes(sum int) string {
	return string(binary.BigEndian.AppendUint32(nil, uint32(sum)))
}

// withSum returns a string, followed by the bytes of its checksum.
func withSum(s string) string {
	return s + sumBytes(expectedSum(s))
}

// expectedFrame returns the frame of a string, also of one that is too long for a frame.
func expectedFrame(s string) string {
	size, _ := codec.Int(len(s))
	return withSum(size + s)
}

// seal returns the frame of a string, which must have one.
func seal(t *testing.T, s string) string {
	t.Helper()
	frame, e := checksum.Seal(s)
	if e != api.OK {
		t.Fatalf("Seal of %d bytes: %d", len(s), e)
	}
	return frame
}

func checkOpen(t *testing.T, promise, frame, s string, size int, e api.Errno) {
	t.Helper()
	if s1, size1, e1 := checksum.Open(frame); s1 != s || size1 != size || e1 != e {
		t.Errorf("%s: Open of %d bytes, %.20x: %d bytes, %d, %d instead of %d bytes, %d, %d", promise, len(frame), frame, len(s1), size1, e1, len(s), size, e)
	}
}

func TestP2_1Sum(t *testing.T) {
	for _, c := range []struct {
		s   string
		sum int
	}{{"", 1}, {"a", 6422626}, {"ab", 19267780}, {"\x00", 65537}, {"\xff", 256*shift + 256}, {strings.Repeat("\x00", 65520), 65520*shift + 1}, {strings.Repeat("\x00", 65521), 1}, {strings.Repeat("\xff", 256) + "\xf0", 2048 * shift}} {
		if sum := checksum.Sum(c.s); sum != c.sum {
			t.Errorf("P2.1: Sum of %d bytes, %.20x: %d instead of %d", len(c.s), c.s, sum, c.sum)
		}
	}
	for _, s := range append(sampleStrings(), strings.Repeat("\xff", 1000000), mixed(300000)) {
		sum := checksum.Sum(s)
		if sum != expectedSum(s) || sum != int(adler32.Checksum([]byte(s))) {
			t.Errorf("P2.1: Sum of %d bytes, %.20x: %d instead of %d", len(s), s, sum, expectedSum(s))
		}
	}
}

func TestP2_1Update(t *testing.T) {
	strs := append(words("\x00\x01\xff", 2), strings.Repeat("\xff", 300), mixed(1000), mixed(70000))
	for _, sum := range sampleSums() {
		for _, s := range strs {
			if sum1, e := checksum.Update(sum, s); sum1 != expectedUpdate(sum, s) || e != api.OK {
				t.Errorf("P2.1: Update(%d, %d bytes): %d, %d instead of %d", sum, len(s), sum1, e, expectedUpdate(sum, s))
			}
		}
	}
	for _, sum := range noSums() {
		for _, s := range []string{"", "a"} {
			if sum1, e := checksum.Update(sum, s); sum1 != 0 || e != api.ErrRange {
				t.Errorf("P2.1: Update(%d, %q): %d, %d", sum, s, sum1, e)
			}
		}
	}
}

func TestP2_1Combine(t *testing.T) {
	sizes := []int{0, 1, 2, 255, 65520, 65521, 65522, 65536, maxText, 1 << 31, 1 << 32, api.MaxInt - 1, api.MaxInt}
	for _, a := range sampleSums() {
		for _, b := range sampleSums() {
			for _, n := range sizes {
				if sum, e := checksum.Combine(a, b, n); sum != expectedCombine(a, b, n) || e != api.OK {
					t.Errorf("P2.1: Combine(%d, %d, %d): %d, %d instead of %d", a, b, n, sum, e, expectedCombine(a, b, n))
				}
			}
		}
	}
}

func TestP2_1CombineErrors(t *testing.T) {
	check := func(a, b, n int) {
		if sum, e := checksum.Combine(a, b, n); sum != 0 || e != api.ErrRange {
			t.Errorf("P2.1: Combine(%d, %d, %d): %d, %d", a, b, n, sum, e)
		}
	}
	for _, none := range noSums() {
		check(none, 1, 0)
		check(1, none, 5)
		check(none, none, -1)
	}
	for _, n := range []int{-1, -2, -1 << 40, -1 << 63, api.MaxInt + 1, 1 << 41, 1 << 62, 1<<63 - 1} {
		check(1, 1, n)
		check(6422626, 19267780, n)
	}
}

func TestP2_1Seal(t *testing.T) {
	if frame, e := checksum.Seal(""); frame != "\x80\x00\x81\x00\x81" || e != api.OK {
		t.Errorf("P2.1: Seal of the empty string: %x, %d", frame, e)
	}
	if frame, e := checksum.Seal("a"); frame != "\x81\x01a\x01\xe9\x00\xe4" || e != api.OK {
		t.Errorf("P2.1: Seal(a): %x, %d", frame, e)
	}
	for _, s := range sampleStrings() {
		if frame, e := checksum.Seal(s); frame != expectedFrame(s) || e != api.OK {
			t.Errorf("P2.1: Seal of %d bytes, %.20x: %d bytes, %d", len(s), s, len(frame), e)
		}
	}
	for _, n := range []int{maxText + 1, maxText + 2, 1 << 17, 3 * maxText} {
		if frame, e := checksum.Seal(strings.Repeat("x", n)); frame != "" || e != api.ErrLimit {
			t.Errorf("P2.1: Seal of %d bytes: %d bytes, %d", n, len(frame), e)
		}
	}
}

func TestP2_1Open(t *testing.T) {
	checkOpen(t, "P2.1", "\x80\x00\x81\x00\x81", "", 5, api.OK)
	checkOpen(t, "P2.1", "\x81\x01a\x01\xe9\x00\xe4", "a", 7, api.OK)
	for _, s := range sampleStrings() {
		frame := expectedFrame(s)
		checkOpen(t, "P2.1", frame, s, len(frame), api.OK)
	}
}

// TestP2_1OpenErrors has inputs with one error, and inputs to which several errors apply.
func TestP2_1OpenErrors(t *testing.T) {
	tooLong := strings.Repeat("x", maxText+1)
	for _, c := range []struct {
		s string
		e api.Errno
	}{
		{"", api.ErrShort},
		{"\x81", api.ErrShort}, {"\x82\x00", api.ErrShort}, {"\x7e", api.ErrShort}, {"\x88\xff\xff\xff\xff\xff\xff\xff", api.ErrShort},
		{"\x00", api.ErrDecode}, {"\xff", api.ErrDecode}, {"\x76\x00\x00", api.ErrDecode}, {"\x89\x00\x00", api.ErrDecode}, {"\x81\x00", api.ErrDecode}, {"\x7e\xff", api.ErrDecode},
		{withSum("\x81\x00"), api.ErrDecode}, {withSum("\x82\x00\x01a"), api.ErrDecode}, {withSum("\x83\x00\x00\x00"), api.ErrDecode},
		{"\x7f", api.ErrDecode}, {"\x7e\xfe", api.ErrDecode}, {withSum("\x7f"), api.ErrDecode}, {"\x77\xc0\x00\x00\x00\x00\x00\x00\x00", api.ErrDecode},
		{"\x83\x01\x86\xa1", api.ErrDecode}, {expectedFrame(tooLong), api.ErrDecode}, {"\x88\x40\x00\x00\x00\x00\x00\x00\x00", api.ErrDecode}, {"\x84\xff\xff\xff\xff" + tooLong, api.ErrDecode},
		{"\x83\x01\x86\xa0", api.ErrShort}, {"\x83\x01\x86\xa0" + tooLong, api.ErrShort},
		{"\x80", api.ErrShort}, {"\x80\x00\x81\x00", api.ErrShort}, {"\x80\xff\xff\xff", api.ErrShort}, {"\x81\x01", api.ErrShort}, {"\x81\x01a\x01\xe9\x00", api.ErrShort}, {"\x81\x05abcd\x00\x00\x00\x00", api.ErrShort},
		{"\x80\x00\x00\x00\x00", api.ErrChecksum}, {"\x80\x00\x81\x00\x80", api.ErrChecksum}, {"\x80\x81\x00\x81\x00", api.ErrChecksum}, {"\x80\x00\x00\x00\x01", api.ErrChecksum},
		{"\x81\x01a\xe4\x00\xe9\x01", api.ErrChecksum}, {"\x81\x01b\x01\xe9\x00\xe4", api.ErrChecksum}, {"\x81\x01\x01\xe9\x00\xe4\x00", api.ErrChecksum},
		{"\x81\x01a\x00\x62\x00\x62", api.ErrChecksum},
	} {
		checkOpen(t, "P2.1", c.s, "", 0, c.e)
	}
}

func TestP2_2Update(t *testing.T) {
	strs := append(words("\x00\x01\xff", 3), mixed(300), strings.Repeat("\xff", 5553), mixed(65521), mixed(maxText))
	for _, x := range strs {
		for _, y := range strs {
			if sum, e := checksum.Update(checksum.Sum(x), y); sum != checksum.Sum(x+y) || e != api.OK {
				t.Errorf("P2.2: Update of %d bytes by %d bytes: %d, %d", len(x), len(y), sum, e)
			}
		}
	}
}

func TestP2_2Combine(t *testing.T) {
	strs := append(words("\x00\x01\xff", 3), mixed(300), strings.Repeat("\xff", 5553), strings.Repeat("\x00", 65521), mixed(65522), mixed(maxText))
	for _, x := range strs {
		for _, y := range strs {
			if sum, e := checksum.Combine(checksum.Sum(x), checksum.Sum(y), len(y)); sum != checksum.Sum(x+y) || e != api.OK {
				t.Errorf("P2.2: Combine of %d bytes and %d bytes: %d, %d", len(x), len(y), sum, e)
			}
		}
	}
}

// TestP2_2NoBytesSummed has strings whose sum of bytes is 0 modulo 65521, so that 1 is subtracted from 0.
func TestP2_2NoBytesSummed(t *testing.T) {
	x := strings.Repeat("\xff", 256) + "\xf0"
	if checksum.Sum(x)%shift != 0 {
		t.Fatalf("P2.2: the sum of the bytes is %d", checksum.Sum(x)%shift)
	}
	for _, y := range []string{"", "\x00", "a", x, mixed(70000)} {
		if sum, e := checksum.Combine(checksum.Sum(x), checksum.Sum(y), len(y)); sum != checksum.Sum(x+y) || e != api.OK {
			t.Errorf("P2.2: Combine with %d bytes: %d, %d", len(y), sum, e)
		}
		if sum, e := checksum.Update(checksum.Sum(x), y); sum != checksum.Sum(x+y) || e != api.OK {
			t.Errorf("P2.2: Update by %d bytes: %d, %d", len(y), sum, e)
		}
	}
}

func TestP2_3ChangedByte(t *testing.T) {
	for _, s := range []string{"a", "\x00", "\xff\xff", "nursery", mixed(256), strings.Repeat("\xff", 300)} {
		sum := checksum.Sum(s)
		b := []byte(s)
		for i := range b {
			for c := range 256 {
				b[i] = byte(c)
				if changed := checksum.Sum(string(b)); (changed == sum) != (b[i] == s[i]) {
					t.Errorf("P2.3: byte %d of %.20x is changed from %d to %d: %d, %d", i, s, s[i], c, sum, changed)
				}
			}
			b[i] = s[i]
		}
	}
}

func TestP2_3ExchangedBytes(t *testing.T) {
	for _, pair := range []string{"\x00\xff", "\xff\x00", "\x00\x01", "ab", "\x80\x7f", "\xf0\x00", "\x00\x80"} {
		for distance := 1; distance <= 256; distance++ {
			for _, around := range []string{"", "\x00", strings.Repeat("\xff", 300)} {
				between := mixed(distance - 1)
				sum := checksum.Sum(around + pair[:1] + between + pair[1:] + around)
				if checksum.Sum(around+pair[1:]+between+pair[:1]+around) == sum {
					t.Errorf("P2.3: the bytes %x at a distance of %d are exchanged", pair, distance)
				}
			}
		}
	}
}

func TestP2_3ExchangedInside(t *testing.T) {
	s := mixed(400)
	sum := checksum.Sum(s)
	b := []byte(s)
	for i := range b {
		for j := i + 1; j < len(b) && j <= i+256; j++ {
			b[i], b[j] = b[j], b[i]
			if (checksum.Sum(string(b)) == sum) != (b[i] == b[j]) {
				t.Errorf("P2.3: the bytes %d and %d are exchanged", i, j)
			}
			b[i], b[j] = b[j], b[i]
		}
	}
}

func TestP2_4Frames(t *testing.T) {
	strs := append(sampleStrings(), expectedFrame("a"), expectedFrame(mixed(1000)))
	for _, s := range strs {
		frame := seal(t, s)
		for _, suffix := range append(suffixes, frame) {
			checkOpen(t, "P2.4", frame+suffix, s, len(frame), api.OK)
		}
	}
}

func TestP2_4FramesOneAfterTheOther(t *testing.T) {
	strs := []string{"", "a", "\x80", "", mixed(300), strings.Repeat("\x00", maxText), "nursery"}
	rest := ""
	for _, s := range strs {
		rest += seal(t, s)
	}
	for _, s := range strs {
		s1, size, e := checksum.Open(rest)
		if s1 != s || e != api.OK {
			t.Fatalf("P2.4: Open: %d bytes, %d instead of %d bytes", len(s1), e, len(s))
		}
		rest = rest[size:]
	}
	if rest != "" {
		t.Errorf("P2.4: %d bytes are left", len(rest))
	}
}

// nearlyFrames returns strings with right checksums behind sizes that are right, wrong, or written in another way.
func nearlyFrames() []string {
	var l []string
	for _, size := range words("\x00\x01\x02\x03\x7e\x7f\x80\x81\x82\x83\xfe\xff", 3) {
		for _, s := range []string{"", "a", "\x00\x00", "abc"} {
			l = append(l, withSum(size+s), withSum(size+s)+"x")
		}
	}
	for _, s := range words("ab\x00", 3) {
		frame := expectedFrame(s)
		for i := range len(frame) {
			for c := range 256 {
				l = append(l, frame[:i]+string([]byte{byte(c)})+frame[i+1:])
			}
		}
	}
	return append(l, expectedFrame(strings.Repeat("x", maxText)), expectedFrame(strings.Repeat("x", maxText+1)))
}

func TestP2_5Canonical(t *testing.T) {
	opened := 0
	for _, frame := range nearlyFrames() {
		s, size, e := checksum.Open(frame)
		if e != api.OK {
			continue
		}
		opened++
		if again, e := checksum.Seal(s); e != api.OK || again != frame[:size] {
			t.Errorf("P2.5: Open(%.20x): %.20x, whose frame is %.20x", frame, s, again)
		}
	}
	if opened < 50 {
		t.Errorf("P2.5: only %d frames are opened", opened)
	}
}

// TestP2_5SumsOutOfRange has frames in which a sum is replaced by a greater number of two bytes with the same remainder.
func TestP2_5SumsOutOfRange(t *testing.T) {
	lows, highs := 0, 0
	for n := range 300 {
		size, _ := codec.Int(n)
		for c := range 256 {
			protected := size + strings.Repeat(string([]byte{byte(c)}), n)
			sum := expectedSum(protected)
			if sum%shift < shift-modulus {
				lows++
				checkOpen(t, "P2.5", protected+sumBytes(sum+modulus), "", 0, api.ErrChecksum)
			}
			if sum/shift < shift-modulus {
				highs++
				checkOpen(t, "P2.5", protected+sumBytes(sum+modulus*shift), "", 0, api.ErrChecksum)
			}
		}
	}
	if lows == 0 || highs == 0 {
		t.Errorf("P2.5: %d and %d frames", lows, highs)
	}
}

func TestP2_6Damage(t *testing.T) {
	for _, s := range []string{"", "a", "\x00", "\xff\xff", "nursery", mixed(255), mixed(256), strings.Repeat("\xff", 300)} {
		frame := seal(t, s)
		b := []byte(frame)
		for i := len(frame) - len(s) - 4; i < len(frame); i++ {
			for c := range 256 {
				if byte(c) != frame[i] {
					b[i] = byte(c)
					checkOpen(t, "P2.6", string(b), "", 0, api.ErrChecksum)
				}
			}
			b[i] = frame[i]
		}
	}
}

func TestP2_6DamageOfLongFrames(t *testing.T) {
	for _, s := range longStrings() {
		frame := seal(t, s)
		head := len(frame) - len(s) - 4
		for _, i := range []int{head, head + 1, head + len(s)/2, head + len(s) - 1, len(frame) - 4, len(frame) - 3, len(frame) - 2, len(frame) - 1} {
			for _, d := range []byte{1, 128, 255} {
				b := []byte(frame)
				b[i] += d
				checkOpen(t, "P2.6", string(b)+"x", "", 0, api.ErrChecksum)
			}
		}
	}
}

func TestP2_7Shortening(t *testing.T) {
	for _, s := range append(words("\x00\x80\xff", 3), "nursery", mixed(255), mixed(256), mixed(5553), expectedFrame("a")) {
		frame := seal(t, s)
		for i := range len(frame) {
			checkOpen(t, "P2.7", frame[:i], "", 0, api.ErrShort)
		}
	}
}

func TestP2_7ShorteningOfLongFrames(t *testing.T) {
	for _, s := range longStrings() {
		frame := seal(t, s)
		for _, i := range []int{0, 1, 2, 3, 4, 5, len(s) / 2, len(s) - 1, len(s), len(frame) - 5, len(frame) - 4, len(frame) - 3, len(frame) - 2, len(frame) - 1} {
			checkOpen(t, "P2.7", frame[:i], "", 0, api.ErrShort)
		}
	}
}
