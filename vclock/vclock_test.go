package vclock_test

import (
	"slices"
	"testing"

	"nursery/api"
	"nursery/vclock"
)

// binary is Join or Meet.
type binary func(a, b api.Clock) (api.Clock, api.Errno)

// combined returns what f returns for clocks that can be combined.
func combined(t *testing.T, f binary, a, b api.Clock) api.Clock {
	t.Helper()
	c, e := f(a, b)
	if e != api.OK {
		t.Fatalf("combining %d and %d: %d, %d", a, b, c, e)
	}
	return c
}

func join(t *testing.T, a, b api.Clock) api.Clock {
	t.Helper()
	return combined(t, vclock.Join, a, b)
}

func meet(t *testing.T, a, b api.Clock) api.Clock {
	t.Helper()
	return combined(t, vclock.Meet, a, b)
}

// tick returns a clock after a tick that is possible.
func tick(t *testing.T, c api.Clock, i int) api.Clock {
	t.Helper()
	ticked, e := vclock.Tick(c, i)
	if e != api.OK {
		t.Fatalf("Tick(%d, %d): %d, %d", c, i, ticked, e)
	}
	return ticked
}

func encode(t *testing.T, c api.Clock) string {
	t.Helper()
	s, e := vclock.Encode(c)
	if e != api.OK {
		t.Fatalf("Encode(%d): %q, %d", c, s, e)
	}
	return s
}

// TestSamples makes sure that the samples are as many and as different as the other tests need them.
func TestSamples(t *testing.T) {
	counts := make([]int, 4)
	for _, family := range families() {
		for _, a := range family {
			for _, b := range family {
				counts[vclock.Compare(a, b)]++
			}
		}
	}
	if slices.Min(counts) < 100 {
		t.Errorf("the results of comparing are %d", counts)
	}
	good, bad := 0, 0
	for _, s := range sampleStrings() {
		if _, ok := expectedDecoding(s); ok {
			good++
		} else {
			bad++
		}
	}
	if good < 1000 || bad < 1000 {
		t.Errorf("%d encodings, %d other strings", good, bad)
	}
}

func TestP5_1New(t *testing.T) {
	for n := -5; n <= most+5; n++ {
		c, e := vclock.New(n)
		if n < 0 || n > most {
			if len(c) != 0 || e != api.ErrRange {
				t.Errorf("P5.1: New(%d): %d, %d", n, c, e)
			}
			continue
		}
		if !slices.Equal(c, make(api.Clock, n)) || e != api.OK {
			t.Errorf("P5.1: New(%d): %d, %d", n, c, e)
		}
	}
	for _, n := range []int{least, -maxInt, -most, 64, 256, maxInt, greatest} {
		if c, e := vclock.New(n); len(c) != 0 || e != api.ErrRange {
			t.Errorf("P5.1: New(%d): %d, %d", n, c, e)
		}
	}
}

func TestP5_1Check(t *testing.T) {
	for _, c := range append(clocks(), api.Clock{}) {
		if e := vclock.Check(c); e != api.OK {
			t.Errorf("P5.1: Check(%d): %d", c, e)
		}
	}
	for _, w := range wrongs() {
		if e := vclock.Check(w.c); e != w.e {
			t.Errorf("P5.1: Check(%d): %d instead of %d", w.c[:min(len(w.c), most+1)], e, w.e)
		}
	}
}

func TestP5_1Tick(t *testing.T) {
	for _, c := range clocks() {
		for i := range c {
			want, wantError := slices.Clone(c), api.OK
			want[i]++
			if c[i] == maxInt {
				want, wantError = nil, api.ErrOverflow
			}
			if ticked, e := vclock.Tick(c, i); !slices.Equal(ticked, want) || e != wantError {
				t.Errorf("P5.1: Tick(%d, %d): %d, %d instead of %d, %d", c, i, ticked, e, want, wantError)
			}
		}
		for _, i := range notIndices(len(c)) {
			if ticked, e := vclock.Tick(c, i); len(ticked) != 0 || e != api.ErrRange {
				t.Errorf("P5.1: Tick(%d, %d): %d, %d", c, i, ticked, e)
			}
		}
	}
}

// TestP5_1TickOfWrong has what is no clock, with indices of components that could be increased, and with others.
func TestP5_1TickOfWrong(t *testing.T) {
	for _, w := range wrongs() {
		for _, i := range append(notIndices(len(w.c)), 0, len(w.c)/2, len(w.c)-1) {
			if ticked, e := vclock.Tick(w.c, i); len(ticked) != 0 || e != api.ErrArgument {
				t.Errorf("P5.1: Tick of %d components, %d: %d, %d", len(w.c), i, ticked, e)
			}
		}
	}
}

func TestP5_1JoinAndMeet(t *testing.T) {
	for _, family := range families() {
		for _, a := range family {
			for _, b := range family {
				var maxima, minima api.Clock
				for i := range a {
					maxima, minima = append(maxima, max(a[i], b[i])), append(minima, min(a[i], b[i]))
				}
				if c := join(t, a, b); !slices.Equal(c, maxima) {
					t.Errorf("P5.1: Join(%d, %d): %d", a, b, c)
				}
				if c := meet(t, a, b); !slices.Equal(c, minima) {
					t.Errorf("P5.1: Meet(%d, %d): %d", a, b, c)
				}
			}
		}
	}
}

// checkNotCombined reports it if two clocks are combined, or found to be ordered.
func checkNotCombined(t *testing.T, a, b api.Clock, want api.Errno) {
	t.Helper()
	if c, e := vclock.Join(a, b); len(c) != 0 || e != want {
		t.Errorf("P5.1: Join of %d and %d components: %d, %d instead of %d", len(a), len(b), c, e, want)
	}
	if c, e := vclock.Meet(a, b); len(c) != 0 || e != want {
		t.Errorf("P5.1: Meet of %d and %d components: %d, %d instead of %d", len(a), len(b), c, e, want)
	}
	if r := vclock.Compare(a, b); r != api.ClockConcurrent {
		t.Errorf("P5.1: Compare of %d and %d components: %d", len(a), len(b), r)
	}
}

func TestP5_1DifferentSizes(t *testing.T) {
	for i, family := range families() {
		for j, other := range families() {
			if i == j {
				continue
			}
			for _, a := range family {
				for _, b := range other {
					checkNotCombined(t, a, b, api.ErrMismatch)
				}
			}
		}
	}
}

// TestP5_1OneIsWrong has what is no clock with clocks of its size and of other sizes, with itself, and with other things that are no clocks.
func TestP5_1OneIsWrong(t *testing.T) {
	for _, w := range wrongs() {
		partners := []api.Clock{nil, {0}, {maxInt}, {1, 2}, make(api.Clock, most), make(api.Clock, len(w.c)), slices.Repeat(api.Clock{maxInt}, len(w.c)), slices.Clone(w.c), w.c, {-1}, {maxInt + 1}, make(api.Clock, most+1)}
		for _, c := range partners {
			checkNotCombined(t, w.c, c, api.ErrArgument)
			checkNotCombined(t, c, w.c, api.ErrArgument)
		}
	}
}

func TestP5_1Compare(t *testing.T) {
	for _, family := range families() {
		for _, a := range family {
			for _, b := range family {
				want := api.ClockConcurrent
				switch {
				case slices.Equal(a, b):
					want = api.ClockEqual
				case isBefore(a, b):
					want = api.ClockBefore
				case isBefore(b, a):
					want = api.ClockAfter
				}
				if r := vclock.Compare(a, b); r != want {
					t.Errorf("P5.1: Compare(%d, %d): %d instead of %d", a, b, r, want)
				}
			}
		}
	}
	if r := vclock.Compare(nil, api.Clock{}); r != api.ClockEqual {
		t.Errorf("P5.1: Compare of clocks without components: %d", r)
	}
}

func TestP5_1Covers(t *testing.T) {
	for _, c := range clocks() {
		for i, x := range c {
			for _, n := range []int{least, -maxInt, -1, 0, 1, 2, x - 1, x, x + 1, maxInt, maxInt + 1, greatest} {
				if got := vclock.Covers(c, i, n); got != (x >= n) {
					t.Errorf("P5.1: Covers(%d, %d, %d): %t", c, i, n, got)
				}
			}
		}
		for _, i := range notIndices(len(c)) {
			for _, n := range []int{least, -1, 0, 1} {
				if vclock.Covers(c, i, n) {
					t.Errorf("P5.1: Covers(%d, %d, %d)", c, i, n)
				}
			}
		}
	}
	for _, w := range wrongs() {
		for _, i := range append(notIndices(len(w.c)), 0, len(w.c)/2, len(w.c)-1) {
			for _, n := range []int{least, -1, 0, 1} {
				if vclock.Covers(w.c, i, n) {
					t.Errorf("P5.1: Covers of %d components, %d, %d", len(w.c), i, n)
				}
			}
		}
	}
}

func TestP5_1Encode(t *testing.T) {
	for _, c := range append(clocks(), api.Clock{}) {
		if s := encode(t, c); s != expectedEncoding(c) {
			t.Errorf("P5.1: Encode(%d): %q instead of %q", c, s, expectedEncoding(c))
		}
	}
	for _, w := range wrongs() {
		if s, e := vclock.Encode(w.c); s != "" || e != api.ErrArgument {
			t.Errorf("P5.1: Encode of %d components: %q, %d", len(w.c), s, e)
		}
	}
}

func TestP5_1Decode(t *testing.T) {
	for _, s := range sampleStrings() {
		want, wantError := api.Clock(nil), api.ErrDecode
		if c, ok := expectedDecoding(s); ok {
			want, wantError = c, api.OK
		}
		if c, e := vclock.Decode(s); !slices.Equal(c, want) || e != wantError {
			t.Errorf("P5.1: Decode(%q): %d, %d instead of %d, %d", s[:min(len(s), 300)], c, e, want, wantError)
		}
	}
}

func TestP5_1DecodeExamples(t *testing.T) {
	for _, c := range []struct {
		s    string
		want api.Clock
		e    api.Errno
	}{
		{"\x01", nil, api.OK},
		{"\x80\x01", api.Clock{0}, api.OK},
		{"\x81\x05\x82\x01\x00\x01", api.Clock{5, 256}, api.OK},
		{"\x86\x01\x00\x00\x00\x00\x00\x01", api.Clock{maxInt}, api.OK},
		{"", nil, api.ErrDecode},
		{"\x80", nil, api.ErrDecode},
		{"\x01\x01", nil, api.ErrDecode},
		{"\x80\x01\x80", nil, api.ErrDecode},
		{"\x81\x01", nil, api.ErrDecode},
		{"\x81\x00\x01", nil, api.ErrDecode},
		{"\x7f\x01", nil, api.ErrDecode},
		{"\x80\x7f\x01", nil, api.ErrDecode},
		{"\x86\x01\x00\x00\x00\x00\x01\x01", nil, api.ErrDecode},
		{"\x88\x40\x00\x00\x00\x00\x00\x00\x00\x01", nil, api.ErrDecode},
		{"\x88\x40\x00\x00\x00\x00\x00\x00\x01\x01", nil, api.ErrDecode},
		{"\x00\x01", nil, api.ErrDecode},
		{"\xff\x01", nil, api.ErrDecode},
	} {
		if got, e := vclock.Decode(c.s); !slices.Equal(got, c.want) || e != c.e {
			t.Errorf("P5.1: Decode(%q): %d, %d instead of %d, %d", c.s, got, e, c.want, c.e)
		}
	}
}

func TestP5_1Examples(t *testing.T) {
	a, b := api.Clock{1, 2}, api.Clock{2, 1}
	if r := vclock.Compare(a, b); r != api.ClockConcurrent {
		t.Errorf("P5.1: Compare(%d, %d): %d", a, b, r)
	}
	if c := join(t, a, b); !slices.Equal(c, api.Clock{2, 2}) {
		t.Errorf("P5.1: Join(%d, %d): %d", a, b, c)
	}
	if c := meet(t, a, b); !slices.Equal(c, api.Clock{1, 1}) {
		t.Errorf("P5.1: Meet(%d, %d): %d", a, b, c)
	}
	if r := vclock.Compare(a, api.Clock{1, 3}); r != api.ClockBefore {
		t.Errorf("P5.1: Compare(%d, (1, 3)): %d", a, r)
	}
	if r := vclock.Compare(api.Clock{1, 3}, a); r != api.ClockAfter {
		t.Errorf("P5.1: Compare((1, 3), %d): %d", a, r)
	}
}

// TestP5_1Memory changes what was returned, and then what was passed, which changes nothing else.
func TestP5_1Memory(t *testing.T) {
	a, b := append(make(api.Clock, 0, 8), 3, 1, 4), append(make(api.Clock, 0, 8), 1, 1, 3)
	for range 2 {
		for _, c := range []api.Clock{tick(t, a, 1), join(t, a, b), join(t, b, a), join(t, a, a), meet(t, a, b), meet(t, b, a), meet(t, b, b)} {
			for i := range c {
				c[i] = -1
			}
			_ = append(c, -1, -1)
		}
		if !slices.Equal(a[:5], api.Clock{3, 1, 4, 0, 0}) || !slices.Equal(b[:5], api.Clock{1, 1, 3, 0, 0}) {
			t.Fatalf("P5.1: the arguments are changed: %d, %d", a[:5], b[:5])
		}
	}
	ticked, joined, met := tick(t, a, 2), join(t, a, b), meet(t, a, b)
	clear(a)
	clear(b)
	if !slices.Equal(ticked, api.Clock{3, 1, 5}) || !slices.Equal(joined, api.Clock{3, 1, 4}) || !slices.Equal(met, api.Clock{1, 1, 3}) {
		t.Errorf("P5.1: the results are changed: %d, %d, %d", ticked, joined, met)
	}
	for range 2 {
		zeros, e := vclock.New(3)
		if !slices.Equal(zeros, api.Clock{0, 0, 0}) || e != api.OK {
			t.Fatalf("P5.1: New(3): %d, %d", zeros, e)
		}
		decoded, e := vclock.Decode("\x81\x05\x80\x01")
		if !slices.Equal(decoded, api.Clock{5, 0}) || e != api.OK {
			t.Fatalf("P5.1: Decode: %d, %d", decoded, e)
		}
		zeros[1], decoded[1] = 7, 7
	}
}

// TestP5_2Order has in each family each clock with itself, each two clocks, and each three of the first 40.
func TestP5_2Order(t *testing.T) {
	before := func(a, b api.Clock) bool { return vclock.Compare(a, b) == api.ClockBefore }
	for _, family := range families() {
		for _, a := range family {
			if before(a, a) {
				t.Errorf("P5.2: %d is before itself", a)
			}
			for _, b := range family {
				if before(a, b) && before(b, a) {
					t.Errorf("P5.2: %d and %d are before each other", a, b)
				}
				if before(a, b) != (vclock.Compare(b, a) == api.ClockAfter) {
					t.Errorf("P5.2: comparing %d and %d, and the other way round", a, b)
				}
			}
		}
		some := family[:min(len(family), 40)]
		for _, a := range some {
			for _, b := range some {
				for _, c := range some {
					if before(a, b) && before(b, c) && !before(a, c) {
						t.Errorf("P5.2: %d is before %d, this before %d", a, b, c)
					}
				}
			}
		}
	}
}

// TestP5_3Bounds compares the bounds of each two clocks with all clocks of some range.
func TestP5_3Bounds(t *testing.T) {
	for n := range 5 {
		all := sequences(n, 0, 1, 2)
		if n == 4 {
			all = sequences(n, 0, 1)
		}
		for _, a := range all {
			for _, b := range all {
				checkBounds(t, a, b, all)
			}
		}
	}
	for _, family := range families() {
		some := family[:min(len(family), 30)]
		for _, a := range some {
			for _, b := range some {
				checkBounds(t, a, b, some)
			}
		}
	}
}

// atMostBy reports by Compare whether a is less than or equal to b.
func atMostBy(a, b api.Clock) bool {
	r := vclock.Compare(a, b)
	return r == api.ClockEqual || r == api.ClockBefore
}

// checkBounds reports it if the join of two clocks is not their least upper bound among some clocks, or the meet not their greatest lower one.
func checkBounds(t *testing.T, a, b api.Clock, all []api.Clock) {
	t.Helper()
	upper, lower := join(t, a, b), meet(t, a, b)
	if !atMostBy(a, upper) || !atMostBy(b, upper) {
		t.Errorf("P5.3: the join %d of %d and %d", upper, a, b)
	}
	if !atMostBy(lower, a) || !atMostBy(lower, b) {
		t.Errorf("P5.3: the meet %d of %d and %d", lower, a, b)
	}
	for _, c := range all {
		if atMostBy(a, c) && atMostBy(b, c) && !atMostBy(upper, c) {
			t.Errorf("P5.3: the join %d of %d and %d: %d is an upper bound", upper, a, b, c)
		}
		if atMostBy(c, a) && atMostBy(c, b) && !atMostBy(c, lower) {
			t.Errorf("P5.3: the meet %d of %d and %d: %d is a lower bound", lower, a, b, c)
		}
	}
}

func TestP5_3Laws(t *testing.T) {
	for _, family := range families() {
		some := family[:min(len(family), 30)]
		for _, a := range some {
			for _, b := range some {
				checkLawsOfTwo(t, a, b)
				for _, c := range some {
					for _, f := range []binary{vclock.Join, vclock.Meet} {
						left, right := combined(t, f, combined(t, f, a, b), c), combined(t, f, a, combined(t, f, b, c))
						if !slices.Equal(left, right) {
							t.Errorf("P5.3: associating %d, %d and %d: %d and %d", a, b, c, left, right)
						}
					}
				}
			}
		}
	}
}

// checkLawsOfTwo reports it if two clocks violate a law of at most two clocks.
func checkLawsOfTwo(t *testing.T, a, b api.Clock) {
	t.Helper()
	for _, f := range []binary{vclock.Join, vclock.Meet} {
		if c, d := combined(t, f, a, b), combined(t, f, b, a); !slices.Equal(c, d) {
			t.Errorf("P5.3: commuting %d and %d: %d and %d", a, b, c, d)
		}
		if c := combined(t, f, a, a); !slices.Equal(c, a) {
			t.Errorf("P5.3: %d with itself: %d", a, c)
		}
	}
	if c := join(t, a, meet(t, a, b)); !slices.Equal(c, a) {
		t.Errorf("P5.3: the join of %d and its meet with %d: %d", a, b, c)
	}
	if c := meet(t, a, join(t, a, b)); !slices.Equal(c, a) {
		t.Errorf("P5.3: the meet of %d and its join with %d: %d", a, b, c)
	}
}

func TestP5_4Before(t *testing.T) {
	for _, c := range clocks() {
		for i := range c {
			if c[i] == maxInt {
				continue
			}
			ticked := tick(t, c, i)
			if vclock.Compare(c, ticked) != api.ClockBefore || vclock.Compare(ticked, c) != api.ClockAfter {
				t.Errorf("P5.4: %d, and %d after a tick", c, ticked)
			}
		}
	}
}

// TestP5_4Commute has clocks with components that cannot be increased too, for which both orders give the same error.
func TestP5_4Commute(t *testing.T) {
	twice := func(c api.Clock, i, j int) (api.Clock, api.Errno) {
		ticked, e := vclock.Tick(c, i)
		if e != api.OK {
			return nil, e
		}
		return vclock.Tick(ticked, j)
	}
	for _, c := range clocks() {
		for i := range c {
			for j := range i {
				a, e := twice(c, i, j)
				b, f := twice(c, j, i)
				if !slices.Equal(a, b) || e != f {
					t.Errorf("P5.4: ticks %d and %d of %d: %d, %d and %d, %d", i, j, c, a, e, b, f)
				}
			}
		}
	}
}

func TestP5_6RoundTrip(t *testing.T) {
	for _, c := range clocks() {
		s := encode(t, c)
		if d, e := vclock.Decode(s); !slices.Equal(c, d) || e != api.OK {
			t.Errorf("P5.6: Decode(%q) of %d: %d, %d", s, c, d, e)
		}
	}
}

func TestP5_6Canonical(t *testing.T) {
	for _, s := range sampleStrings() {
		c, e := vclock.Decode(s)
		if e != api.OK {
			continue
		}
		if back, e := vclock.Encode(c); back != s || e != api.OK {
			t.Errorf("P5.6: Encode(%d): %q, %d instead of %q", c, back, e, s)
		}
	}
}
