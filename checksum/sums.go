package checksum

const (
	modulus = 65521
	shift   = 65536 // the factor of the second sum in a checksum
)

// sums are the two sums of which a checksum consists: bytes is the sum of the bytes, and totals that of all values that bytes has had.
type sums struct{ bytes, totals int }

// noBytes returns the sums of the empty string.
func noBytes() sums {
	return sums{bytes: 1}
}

// isChecksum returns whether both sums in a number are in range. The quotient of a number above 2^32 - 1 is not.
func isChecksum(n int) bool {
	return n >= 0 && n%shift < modulus && n/shift < modulus
}

// split returns the sums in a checksum.
func split(checksum int) sums {
	return sums{bytes: checksum % shift, totals: checksum / shift}
}

func (t sums) checksum() int {
	return t.totals*shift + t.bytes
}

// add puts a byte behind the others.
func (t *sums) add(b byte) {
	t.bytes = residue(t.bytes + int(b))
	t.totals = residue(t.totals + t.bytes)
}

// extended returns the sums after the bytes of s.
func (t sums) extended(s string) sums {
	eachByte(s, t.add)
	return t
}

// followedBy returns the sums of a string with the sums t, followed by n bytes with the sums u.
//
// The sums u begin with 1 instead of t.bytes: so each value that the sum of the bytes has in u lacks t.bytes - 1.
func (t sums) followedBy(u sums, n int) sums {
	lack := t.bytes - 1
	return sums{
		bytes:  residue(u.bytes + lack),
		totals: residue(t.totals + u.totals + n*lack),
	}
}

func eachByte(s string, visit func(byte)) {
	for i := range len(s) {
		visit(s[i])
	}
}

// residue returns n modulo the modulus, for a negative n too.
func residue(n int) int {
	return (n%modulus + modulus) % modulus
}
