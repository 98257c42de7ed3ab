package partialorder_test

import (
	"slices"
	"testing"

	"nursery/api"
	"nursery/partialorder"
)

// generated returns what Generate returns for pairs from which an order can be generated.
func generated(t *testing.T, n int, l []api.Edge) []api.Edge {
	t.Helper()
	order, e := partialorder.Generate(n, l)
	if e != api.OK {
		t.Fatalf("Generate(%d, %d): %d, %d", n, l, order, e)
	}
	return order
}

func covers(t *testing.T, s sample) []api.Edge {
	t.Helper()
	l, e := partialorder.Covers(s.n, s.l)
	if e != api.OK {
		t.Fatalf("Covers(%d, %d): %d, %d", s.n, s.l, l, e)
	}
	return l
}

func extensions(t *testing.T, s sample, most int) [][]int {
	t.Helper()
	l, e := partialorder.Extensions(s.n, s.l, most)
	if e != api.OK || len(l) > most {
		t.Fatalf("Extensions(%d, %d, %d): %d lists, %d", s.n, s.l, most, len(l), e)
	}
	return l
}

func leastExtension(t *testing.T, s sample) []int {
	t.Helper()
	l, e := partialorder.Least(s.n, s.l)
	if e != api.OK {
		t.Fatalf("Least(%d, %d): %d, %d", s.n, s.l, l, e)
	}
	return l
}

// allOrders returns strict partial orders of all sizes.
func allOrders() []sample {
	return slices.Concat(smallOrders(), mediumOrders(), largeOrders())
}

// TestSamples makes sure that the samples are as many and as large as the other tests need them.
func TestSamples(t *testing.T) {
	counts := make([]int, 6)
	for _, s := range smallOrders() {
		counts[s.n]++
	}
	if !slices.Equal(counts, []int{1, 1, 3, 19, 219, 4231}) {
		t.Errorf("%d orders", counts)
	}
	for _, s := range largeOrders() {
		if !s.isOrder() || s.n > api.MaxGraph || len(s.l) > api.MaxEdges {
			t.Errorf("(%d, %d) is no strict partial order", s.n, s.l)
		}
	}
	if len(fullOrder().l) != api.MaxEdges || len(largeOrders()) < 50 {
		t.Errorf("%d pairs, %d large orders", len(fullOrder().l), len(largeOrders()))
	}
}

func TestP4_1Check(t *testing.T) {
	for _, s := range smallRelations() {
		want := api.OK
		if s.loop() {
			want = api.ErrCycle
		} else if !s.transitive() {
			want = api.ErrMismatch
		}
		if e := partialorder.Check(s.n, s.l); e != want {
			t.Errorf("P4.1: Check(%d, %d): %d instead of %d", s.n, s.l, e, want)
		}
	}
	for _, s := range allOrders() {
		if e := partialorder.Check(s.n, s.l); e != api.OK {
			t.Errorf("P4.1: Check(%d, %d): %d", s.n, s.l, e)
		}
	}
}

// TestP4_1CheckOfChanges leaves out a pair of an order, or adds one.
func TestP4_1CheckOfChanges(t *testing.T) {
	next := randoms(1)
	for _, s := range largeOrders() {
		for range 20 {
			p := api.Edge{From: next(s.n), To: next(s.n)}
			i, found := slices.BinarySearchFunc(s.l, p, comparePairs)
			changed := sample{s.n, slices.Insert(slices.Clone(s.l), i, p)}
			if found {
				changed.l = slices.Delete(slices.Clone(s.l), i, i+1)
			}
			want := api.OK
			if len(changed.l) > api.MaxEdges {
				want = api.ErrLimit
			} else if changed.loop() {
				want = api.ErrCycle
			} else if !changed.transitive() {
				want = api.ErrMismatch
			}
			if e := partialorder.Check(changed.n, changed.l); e != want {
				t.Errorf("P4.1: Check(%d, %d), with %d changed: %d instead of %d", s.n, s.l, p, e, want)
			}
		}
	}
}

// TestP4_1Errors has all functions but Generate with what is no strict partial order.
func TestP4_1Errors(t *testing.T) {
	for _, c := range wrongs() {
		if e := partialorder.Check(c.n, c.l); e != c.e {
			t.Errorf("P4.1: Check(%d, %d): %d instead of %d", c.n, c.l[:min(len(c.l), 9)], e, c.e)
		}
		if l, e := partialorder.Covers(c.n, c.l); len(l) != 0 || e != c.e {
			t.Errorf("P4.1: Covers(%d, %d): %d, %d instead of %d", c.n, c.l[:min(len(c.l), 9)], l, e, c.e)
		}
		if l, e := partialorder.Least(c.n, c.l); len(l) != 0 || e != c.e {
			t.Errorf("P4.1: Least(%d, %d): %d, %d instead of %d", c.n, c.l[:min(len(c.l), 9)], l, e, c.e)
		}
		for _, most := range []int{0, 1, 5000, -1, 5001} {
			if l, e := partialorder.Extensions(c.n, c.l, most); len(l) != 0 || e != c.e {
				t.Errorf("P4.1: Extensions(%d, %d, %d): %d, %d instead of %d", c.n, c.l[:min(len(c.l), 9)], most, l, e, c.e)
			}
		}
		for _, order := range [][]int{nil, {0}, {0, 1}, {0, 1, 2}, {2, 1, 0}, {0, 1, 2, 3}} {
			if partialorder.Extends(c.n, c.l, order) {
				t.Errorf("P4.1: Extends(%d, %d, %d)", c.n, c.l[:min(len(c.l), 9)], order)
			}
		}
		if l := partialorder.Concurrent(c.n, c.l); len(l) != 0 {
			t.Errorf("P4.1: Concurrent(%d, %d): %d", c.n, c.l[:min(len(c.l), 9)], l)
		}
	}
}

func TestP4_1Examples(t *testing.T) {
	order := generated(t, 4, pairs(0, 1, 1, 2))
	if !slices.Equal(order, pairs(0, 1, 0, 2, 1, 2)) {
		t.Errorf("P4.1: Generate: %d", order)
	}
	s := sample{4, order}
	if l := covers(t, s); !slices.Equal(l, pairs(0, 1, 1, 2)) {
		t.Errorf("P4.1: Covers: %d", l)
	}
	want := [][]int{{0, 1, 2, 3}, {0, 1, 3, 2}, {0, 3, 1, 2}, {3, 0, 1, 2}}
	if l := extensions(t, s, 5000); !slices.EqualFunc(l, want, slices.Equal) {
		t.Errorf("P4.1: Extensions: %d", l)
	}
	if l := leastExtension(t, s); !slices.Equal(l, want[0]) {
		t.Errorf("P4.1: Least: %d", l)
	}
	if l := partialorder.Concurrent(4, order); !slices.Equal(l, pairs(0, 3, 1, 3, 2, 3)) {
		t.Errorf("P4.1: Concurrent: %d", l)
	}
}

// TestP4_1NoElements has the empty order, whose only linear extension is the empty list.
func TestP4_1NoElements(t *testing.T) {
	for _, l := range [][]api.Edge{nil, {}} {
		s := sample{0, l}
		if e := partialorder.Check(0, l); e != api.OK {
			t.Errorf("P4.1: Check: %d", e)
		}
		if order := generated(t, 0, l); len(order) != 0 {
			t.Errorf("P4.1: Generate: %d", order)
		}
		if l := covers(t, s); len(l) != 0 {
			t.Errorf("P4.1: Covers: %d", l)
		}
		if l := leastExtension(t, s); len(l) != 0 {
			t.Errorf("P4.1: Least: %d", l)
		}
		if l := extensions(t, s, 5); len(l) != 1 || len(l[0]) != 0 {
			t.Errorf("P4.1: Extensions: %d", l)
		}
		if l := extensions(t, s, 0); len(l) != 0 {
			t.Errorf("P4.1: Extensions: %d", l)
		}
		if !partialorder.Extends(0, l, nil) || !partialorder.Extends(0, l, []int{}) || partialorder.Extends(0, l, []int{0}) {
			t.Error("P4.1: Extends")
		}
		if l := partialorder.Concurrent(0, l); len(l) != 0 {
			t.Errorf("P4.1: Concurrent: %d", l)
		}
	}
}

// TestP4_1GenerateSmall generates from all relations on at most four elements, in ascending order, and in another one with repetitions.
func TestP4_1GenerateSmall(t *testing.T) {
	next := randoms(2)
	for _, s := range smallRelations() {
		want, e := s.closure(), api.OK
		if want.loop() {
			want.l, e = nil, api.ErrCycle
		}
		again := shuffled(append(slices.Clone(s.l), s.l[:len(s.l)/2]...), next)
		for _, l := range [][]api.Edge{s.l, again} {
			if order, e1 := partialorder.Generate(s.n, l); !slices.Equal(order, want.l) || e1 != e {
				t.Errorf("P4.1: Generate(%d, %d): %d, %d instead of %d, %d", s.n, l, order, e1, want.l, e)
			}
		}
	}
}

func TestP4_1GenerateLarge(t *testing.T) {
	next := randoms(3)
	for _, s := range largeOrders() {
		l := shuffled(covers(t, s), next)
		if order := generated(t, s.n, l); !slices.Equal(order, s.l) {
			t.Errorf("P4.1: Generate(%d, %d): %d instead of %d", s.n, l, order, s.l)
		}
		if len(s.l) == 0 || len(l) == api.MaxEdges {
			continue
		}
		p := s.l[next(len(s.l))]
		l = append(l, api.Edge{From: p.To, To: p.From})
		if order, e := partialorder.Generate(s.n, l); len(order) != 0 || e != api.ErrCycle {
			t.Errorf("P4.1: Generate(%d, %d): %d, %d", s.n, l, order, e)
		}
	}
}

// chain returns the pairs of n elements with the next ones.
func chain(n int) []api.Edge {
	return fromRule(n, func(i, j int) bool { return j == i+1 }).l
}

// TestP4_1GenerateLimits has too many pairs, or those of which too many are generated.
func TestP4_1GenerateLimits(t *testing.T) {
	full := chain(63)
	for i := 63; i < 63+94; i += 2 {
		full = append(full, api.Edge{From: i, To: i + 1})
	}
	for _, c := range []struct {
		n, size int
		l       []api.Edge
		e       api.Errno
	}{
		{63, 1953, chain(63), api.OK},
		{64, 0, chain(64), api.ErrLimit},
		{200, 1953, chain(63), api.OK},
		{200, 0, chain(200), api.ErrLimit},
		{157, 2000, full, api.OK},
		{159, 0, append(full[:len(full):len(full)], api.Edge{From: 157, To: 158}), api.ErrLimit},
		{90, 2000, fromRule(90, func(i, j int) bool { return i < 40 && j >= 40 }).l, api.OK},
		{91, 1999, fromRule(91, func(i, j int) bool { return i < 40 && j >= 40 && j < 90 }).l[:1999:1999], api.OK},
		{2, 1, slices.Repeat(pairs(0, 1), 2000), api.OK},
		{2, 0, slices.Repeat(pairs(0, 1), 2001), api.ErrLimit},
		{2, 0, slices.Repeat(pairs(0, 2), 2001), api.ErrLimit},
		{2, 0, slices.Repeat(pairs(0, 0), 2001), api.ErrLimit},
		{2, 0, slices.Repeat(pairs(0, 0), 2000), api.ErrCycle},
		{200, 0, append(chain(200), api.Edge{From: 199}), api.ErrCycle},
		{200, 0, append(chain(200), api.Edge{From: 7, To: 7}), api.ErrCycle},
	} {
		if order, e := partialorder.Generate(c.n, c.l); len(order) != c.size || e != c.e {
			t.Errorf("P4.1: Generate(%d, ..) from %d pairs: %d pairs, %d", c.n, len(c.l), len(order), e)
		}
	}
}

func TestP4_1GenerateErrors(t *testing.T) {
	for _, c := range wrongs() {
		if c.e != api.ErrRange && c.e != api.ErrLimit && c.e != api.ErrCycle {
			continue
		}
		if l, e := partialorder.Generate(c.n, c.l); len(l) != 0 || e != c.e {
			t.Errorf("P4.1: Generate(%d, %d): %d, %d instead of %d", c.n, c.l[:min(len(c.l), 9)], l, e, c.e)
		}
	}
	for _, c := range []wrong{
		{2, pairs(0, 1, 1, 0), api.ErrCycle},
		{3, pairs(1, 1, 0, 1), api.ErrCycle},
		{3, pairs(1, 2, 0, 1, 2, 0), api.ErrCycle},
		{4, pairs(1, 2, 0, 1, 3, 0, 2, 3), api.ErrCycle},
		{3, pairs(1, 0, 0, 1, 0, 3), api.ErrRange},
		{3, pairs(1, 1, -1, 0), api.ErrRange},
		{3, pairs(2, 1, 1, greatest), api.ErrRange},
	} {
		if l, e := partialorder.Generate(c.n, c.l); len(l) != 0 || e != c.e {
			t.Errorf("P4.1: Generate(%d, %d): %d, %d instead of %d", c.n, c.l, l, e, c.e)
		}
	}
}

func TestP4_1Covers(t *testing.T) {
	for _, s := range allOrders() {
		m := s.matrix()
		var want []api.Edge
		for _, p := range s.l {
			between := 0
			for k := range s.n {
				if m[p.From][k] && m[k][p.To] {
					between++
				}
			}
			if between == 0 {
				want = append(want, p)
			}
		}
		if l := covers(t, s); !slices.Equal(l, want) {
			t.Errorf("P4.1: Covers(%d, %d): %d instead of %d", s.n, s.l, l, want)
		}
	}
}

func TestP4_1Extends(t *testing.T) {
	all := make([][][]int, 6)
	for n := range all {
		all[n] = permutations(n)
	}
	for _, s := range smallOrders() {
		for _, order := range all[s.n] {
			if got := partialorder.Extends(s.n, s.l, order); got != s.extends(order) {
				t.Errorf("P4.1: Extends(%d, %d, %d): %t", s.n, s.l, order, got)
			}
		}
	}
}

// TestP4_1ExtendsLarge exchanges elements of linear extensions.
func TestP4_1ExtendsLarge(t *testing.T) {
	next := randoms(4)
	yes, no := 0, 0
	for _, s := range largeOrders() {
		for _, order := range extensions(t, s, 10) {
			for range 10 {
				changed := slices.Clone(order)
				i, j := next(s.n), next(s.n)
				changed[i], changed[j] = changed[j], changed[i]
				got := partialorder.Extends(s.n, s.l, changed)
				if got != s.extends(changed) {
					t.Errorf("P4.1: Extends(%d, %d, %d): %t", s.n, s.l, changed, got)
				}
				if got {
					yes++
				} else {
					no++
				}
			}
		}
	}
	if yes < 100 || no < 100 {
		t.Errorf("P4.1: Extends was true %d times, and false %d times", yes, no)
	}
}

// TestP4_1ExtendsOther has lists that do not have each element once.
func TestP4_1ExtendsOther(t *testing.T) {
	for _, c := range []struct {
		n     int
		l     []api.Edge
		order []int
	}{
		{1, nil, nil},
		{1, nil, []int{1}},
		{1, nil, []int{-1}},
		{1, nil, []int{0, 0}},
		{1, nil, []int{0, 1}},
		{1, nil, []int{0, -1}},
		{2, nil, []int{0}},
		{2, nil, []int{0, 0}},
		{2, nil, []int{1, 1}},
		{2, nil, []int{0, 1, 0}},
		{2, nil, []int{0, 2}},
		{2, nil, []int{least, greatest}},
		{3, pairs(0, 1), []int{0, 1}},
		{3, pairs(0, 1), []int{0, 1, 1}},
		{3, pairs(0, 1), []int{0, 0, 1}},
		{3, pairs(0, 1), []int{0, 1, 2, 3}},
		{3, pairs(0, 1), []int{0, 1, 2, 2}},
		{3, pairs(0, 1), []int{-1, 0, 1, 2}},
		{3, pairs(0, 1, 0, 2, 1, 2), []int{0, 2, 1}},
		{api.MaxGraph, nil, slices.Repeat([]int{0}, api.MaxGraph)},
	} {
		if partialorder.Extends(c.n, c.l, c.order) {
			t.Errorf("P4.1: Extends(%d, %d, %d)", c.n, c.l, c.order)
		}
	}
}

func TestP4_1Most(t *testing.T) {
	for _, s := range append(mediumOrders(), specialOrders()...) {
		for _, most := range []int{least, -1, 5001, greatest} {
			if l, e := partialorder.Extensions(s.n, s.l, most); len(l) != 0 || e != api.ErrRange {
				t.Errorf("P4.1: Extensions(%d, %d, %d): %d, %d", s.n, s.l, most, l, e)
			}
		}
		all := extensions(t, s, 5000)
		for _, most := range []int{0, 1, 2, 3, 7, len(all) - 1, len(all), min(len(all)+1, 5000)} {
			if l := extensions(t, s, most); !slices.EqualFunc(l, all[:min(most, len(all))], slices.Equal) {
				t.Errorf("P4.1: Extensions(%d, %d, %d): %d", s.n, s.l, most, l)
			}
		}
	}
}

func TestP4_1Concurrent(t *testing.T) {
	for _, s := range allOrders() {
		m := s.matrix()
		want := fromRule(s.n, func(i, j int) bool { return i < j && !m[i][j] && !m[j][i] }).l
		if l := partialorder.Concurrent(s.n, s.l); !slices.Equal(l, want) {
			t.Errorf("P4.1: Concurrent(%d, %d): %d instead of %d", s.n, s.l, l, want)
		}
	}
}

// TestP4_1Memory changes what was returned, which changes neither the arguments nor other results.
func TestP4_1Memory(t *testing.T) {
	given := pairs(2, 3, 0, 1, 2, 3, 1, 2)
	l := slices.Clone(given)
	for range 2 {
		order := generated(t, 5, l)
		if !slices.Equal(l, given) || !slices.Equal(order, pairs(0, 1, 0, 2, 0, 3, 1, 2, 1, 3, 2, 3)) {
			t.Fatalf("P4.1: Generate(5, %d): %d", l, order)
		}
		s := sample{5, slices.Clone(order)}
		clear(covers(t, s))
		clear(partialorder.Concurrent(s.n, s.l))
		clear(leastExtension(t, s))
		lists := extensions(t, s, 9)
		if !slices.EqualFunc(lists, [][]int{{0, 1, 2, 3, 4}, {0, 1, 2, 4, 3}, {0, 1, 4, 2, 3}, {0, 4, 1, 2, 3}, {4, 0, 1, 2, 3}}, slices.Equal) {
			t.Fatalf("P4.1: Extensions: %d", lists)
		}
		_ = append(lists[0], -1)
		clear(lists[1])
		if !slices.Equal(lists[0], []int{0, 1, 2, 3, 4}) || !slices.Equal(lists[2], []int{0, 1, 4, 2, 3}) {
			t.Errorf("P4.1: Extensions share memory: %d", lists)
		}
		if !slices.Equal(s.l, order) || !partialorder.Extends(s.n, s.l, lists[0]) {
			t.Errorf("P4.1: the argument is changed: %d", s.l)
		}
		clear(order)
	}
}

// TestP4_2Least compares what is generated with every strict partial order that contains the pairs.
func TestP4_2Least(t *testing.T) {
	orders := make([][]int, 5)
	for _, s := range smallOrders() {
		if s.n < len(orders) {
			orders[s.n] = append(orders[s.n], set(s.n, s.l))
		}
	}
	for _, s := range smallRelations() {
		given, containing := set(s.n, s.l), 0
		l, e := partialorder.Generate(s.n, s.l)
		result := set(s.n, l)
		for _, order := range orders[s.n] {
			if given&^order == 0 {
				containing++
				if result&^order != 0 {
					t.Fatalf("P4.2: Generate(%d, %d): %d is not contained in %d", s.n, s.l, l, fromSet(s.n, order).l)
				}
			}
		}
		if (e == api.OK) != (containing > 0) {
			t.Errorf("P4.2: Generate(%d, %d): %d, and %d orders contain the pairs", s.n, s.l, e, containing)
		}
		if e == api.OK && (given&^result != 0 || !slices.Contains(orders[s.n], result)) {
			t.Errorf("P4.2: Generate(%d, %d): %d", s.n, s.l, l)
		}
	}
}

func TestP4_2Closure(t *testing.T) {
	for _, s := range allOrders() {
		if l := generated(t, s.n, s.l); !slices.Equal(l, s.l) {
			t.Errorf("P4.2: Generate(%d, %d): %d", s.n, s.l, l)
		}
	}
	next := randoms(5)
	for _, s := range largeOrders() {
		var some []api.Edge
		for _, p := range shuffled(s.l, next) {
			if next(2) == 0 {
				some = append(some, p)
			}
		}
		l := generated(t, s.n, some)
		if e := partialorder.Check(s.n, l); e != api.OK {
			t.Errorf("P4.2: Check of what is generated from (%d, %d): %d", s.n, some, e)
		}
		has, whole := sample{s.n, l}.matrix(), s.matrix()
		for _, p := range some {
			if !has[p.From][p.To] {
				t.Errorf("P4.2: Generate(%d, %d) has no %d", s.n, some, p)
			}
		}
		for _, p := range l {
			if !whole[p.From][p.To] {
				t.Errorf("P4.2: Generate(%d, %d) has %d", s.n, some, p)
			}
		}
	}
}

func TestP4_3Covers(t *testing.T) {
	next := randoms(6)
	for _, s := range allOrders() {
		l := covers(t, s)
		if order := generated(t, s.n, l); !slices.Equal(order, s.l) {
			t.Errorf("P4.3: the covering pairs of (%d, %d) generate %d", s.n, s.l, order)
		}
		for i := range l {
			if len(l) > 30 && next(len(l)) >= 30 {
				continue
			}
			rest := slices.Delete(slices.Clone(l), i, i+1)
			if order := generated(t, s.n, rest); slices.Equal(order, s.l) {
				t.Errorf("P4.3: the covering pairs of (%d, %d) generate it without %d", s.n, s.l, l[i])
			}
		}
	}
}

// TestP4_4Extensions compares with all lists that have each element once.
func TestP4_4Extensions(t *testing.T) {
	all := make([][][]int, 8)
	for n := range all {
		all[n] = permutations(n)
	}
	for _, s := range append(smallOrders(), mediumOrders()...) {
		if s.n >= len(all) {
			continue
		}
		var want [][]int
		for _, order := range all[s.n] {
			if s.extends(order) {
				want = append(want, order)
			}
		}
		if l := extensions(t, s, 5000); !slices.EqualFunc(l, want[:min(len(want), 5000)], slices.Equal) {
			t.Errorf("P4.4: Extensions(%d, %d): %d instead of %d", s.n, s.l, l, want)
		}
		if l := leastExtension(t, s); !slices.Equal(l, want[0]) {
			t.Errorf("P4.4: Least(%d, %d): %d instead of %d", s.n, s.l, l, want[0])
		}
	}
}

// TestP4_4ExtensionsLarge compares the number of the extensions with that of paths through the sets of elements.
func TestP4_4ExtensionsLarge(t *testing.T) {
	for _, s := range append(mediumOrders(), largeOrders()...) {
		l := extensions(t, s, 5000)
		if s.n <= 16 && len(l) != min(s.count(), 5000) {
			t.Errorf("P4.4: Extensions(%d, %d): %d instead of %d", s.n, s.l, len(l), s.count())
		}
		if len(l) == 0 || !slices.Equal(l[0], leastExtension(t, s)) {
			t.Fatalf("P4.4: Extensions(%d, %d): %d lists, and the least one is %d", s.n, s.l, len(l), leastExtension(t, s))
		}
		for i, order := range l {
			if i > 0 && slices.Compare(l[i-1], order) >= 0 {
				t.Errorf("P4.4: Extensions(%d, %d): %d before %d", s.n, s.l, l[i-1], order)
			}
			if (i < 20 || i == len(l)-1) && (!s.extends(order) || !partialorder.Extends(s.n, s.l, order)) {
				t.Errorf("P4.4: Extensions(%d, %d): %d", s.n, s.l, order)
			}
		}
	}
}

// TestP4_4Antichains has elements without pairs, each list of which is a linear extension.
func TestP4_4Antichains(t *testing.T) {
	for n := range api.MaxGraph + 1 {
		if n > 12 && n%40 != 0 {
			continue
		}
		var want []int
		for i := range n {
			want = append(want, i)
		}
		l := extensions(t, sample{n, nil}, 5000)
		for i, order := range l {
			if !slices.Equal(order, want) {
				t.Fatalf("P4.4: Extensions of %d elements: %d instead of %d, as number %d", n, order, want, i)
			}
			want = nextPermutation(want)
		}
		if len(l) < 5000 && want != nil {
			t.Errorf("P4.4: Extensions of %d elements: only %d", n, len(l))
		}
	}
}

// TestP4_4Tails has chains behind elements without pairs, so that each extension ends with many elements that are forced.
func TestP4_4Tails(t *testing.T) {
	for _, free := range []int{1, 3, 6, 7} {
		n := free + 50
		s := fromRule(n, func(i, j int) bool { return j >= free && i < j })
		l := extensions(t, s, 5000)
		if want := len(permutations(free)); len(l) != min(want, 5000) {
			t.Errorf("P4.4: Extensions with %d free elements: %d", free, len(l))
		}
		for _, order := range l {
			if order[n-1] != n-1 || !slices.IsSorted(order[free:]) {
				t.Errorf("P4.4: Extensions with %d free elements: %d", free, order)
			}
		}
	}
}

func TestP4_5Intersection(t *testing.T) {
	for _, s := range append(smallOrders(), mediumOrders()...) {
		l := extensions(t, s, 5000)
		if len(l) == 5000 {
			continue
		}
		stands := make([][]int, s.n)
		for i := range stands {
			stands[i] = make([]int, s.n)
		}
		for _, order := range l {
			for place, j := range order {
				for _, i := range order[:place] {
					stands[i][j]++
				}
			}
		}
		always := fromRule(s.n, func(i, j int) bool { return stands[i][j] == len(l) }).l
		if !slices.Equal(always, s.l) {
			t.Errorf("P4.5: in all extensions of (%d, %d) there are %d", s.n, s.l, always)
		}
		both := fromRule(s.n, func(i, j int) bool { return i < j && stands[i][j] > 0 && stands[j][i] > 0 }).l
		if concurrent := partialorder.Concurrent(s.n, s.l); !slices.Equal(both, concurrent) {
			t.Errorf("P4.5: in some extensions of (%d, %d) there are %d, but %d are concurrent", s.n, s.l, both, concurrent)
		}
	}
}

func TestP4_6Refinement(t *testing.T) {
	next := randoms(7)
	refined := 0
	for _, s := range allOrders() {
		concurrent := partialorder.Concurrent(s.n, s.l)
		for _, p := range concurrent {
			if len(concurrent) > 30 && next(len(concurrent)) >= 20 {
				continue
			}
			for _, added := range []api.Edge{p, {From: p.To, To: p.From}} {
				if len(s.l) == api.MaxEdges {
					continue
				}
				l := append(slices.Clone(s.l), added)
				want := sample{s.n, l}.closure()
				order, e := partialorder.Generate(s.n, l)
				if len(want.l) > api.MaxEdges && e == api.ErrLimit {
					continue
				}
				if e != api.OK || !slices.Equal(order, want.l) || partialorder.Check(s.n, order) != api.OK {
					t.Fatalf("P4.6: Generate(%d, %d): %d, %d", s.n, l, order, e)
				}
				refined++
			}
		}
	}
	if refined < 20000 {
		t.Errorf("P4.6: only %d refinements", refined)
	}
}
