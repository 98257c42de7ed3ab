package digraph_test

import (
	"slices"
	"testing"

	"nursery/api"
	"nursery/digraph"
)

const (
	least    = -1 << 63
	greatest = 1<<63 - 1
)

// network is a graph of the tests.
type network struct {
	n int
	l []api.Edge
}

// edges returns the edges with the ends that are listed in pairs.
func edges(ends ...int) []api.Edge {
	var l []api.Edge
	for i := 0; i < len(ends); i += 2 {
		l = append(l, api.Edge{From: ends[i], To: ends[i+1]})
	}
	return l
}

// fromSet returns the graph of n nodes whose edges are chosen by the bits of set.
func fromSet(n, set int) network {
	var l []api.Edge
	for i := range n * n {
		if set>>i&1 == 1 {
			l = append(l, api.Edge{From: i / n, To: i % n})
		}
	}
	return network{n, l}
}

// fromRule returns the graph of n nodes with the edges that fulfil a condition.
func fromRule(n int, condition func(from, to int) bool) network {
	var l []api.Edge
	for from := range n {
		for to := range n {
			if condition(from, to) {
				l = append(l, api.Edge{From: from, To: to})
			}
		}
	}
	return network{n, l}
}

// tinyGraphs returns all graphs of at most three nodes.
func tinyGraphs() []network {
	var l []network
	for n := range 4 {
		for set := range 1 << (n * n) {
			l = append(l, fromSet(n, set))
		}
	}
	return l
}

// smallGraphs returns all graphs of at most four nodes.
func smallGraphs() []network {
	l := tinyGraphs()
	for set := range 1 << 16 {
		l = append(l, fromSet(4, set))
	}
	return l
}

// scattered returns a graph of n nodes with about one edge for each share pairs of nodes, which follow no short pattern; one without cycles leads along a permutation of the nodes.
func scattered(n, share, seed int, cycles bool) network {
	x := uint32(seed)
	next := func(k int) int {
		x = x*1664525 + 1013904223
		return int(x>>8) % k
	}
	place := make([]int, n)
	for i := range place {
		place[i] = i
		j := next(i + 1)
		place[i], place[j] = place[j], place[i]
	}
	g := fromRule(n, func(from, to int) bool { return next(share) == 0 && (cycles || place[from] < place[to]) })
	g.l = g.l[:min(len(g.l), api.MaxEdges)]
	return g
}

// scatteredGraphs returns graphs of many sizes, sparse and dense ones, with and without cycles.
func scatteredGraphs() []network {
	var l []network
	for seed, n := range []int{5, 6, 7, 8, 12, 20, 33, 44, 60, 100, 150, 199, 200} {
		for _, share := range []int{2, 5, n/3 + 1, n/2 + 1, n, 2 * n, n * n} {
			l = append(l, scattered(n, share, seed+1, true), scattered(n, share, seed+1, false))
		}
	}
	return l
}

// specialGraphs returns graphs at the limits, and graphs with a simple form.
func specialGraphs() []network {
	n := api.MaxGraph
	l := []network{
		{n, nil},
		fromRule(n, func(from, to int) bool { return to == from+1 }),
		fromRule(n, func(from, to int) bool { return to == from-1 }),
		fromRule(n, func(from, to int) bool { return to == (from+1)%n }),
		fromRule(n, func(from, to int) bool { return to == (from+n-1)%n }),
		fromRule(n, func(from, to int) bool { return to == from }),
		fromRule(n, func(from, to int) bool { return from == n-1 }),
		fromRule(n, func(from, to int) bool { return to == n-1 && from < to }),
		fromRule(n, func(from, to int) bool { return to > from && to <= from+10 }),
		fromRule(n, func(from, to int) bool { return (to-from+n)%n < 10 }),
		fromRule(n, func(from, to int) bool { return to/2 == from && to > from }),
		fromRule(44, func(from, to int) bool { return true }),
		fromRule(63, func(from, to int) bool { return from < to }),
		fromRule(63, func(from, to int) bool { return from > to }),
		fromRule(20, func(from, to int) bool { return to/4 == (from/4+1)%5 }),
		fromRule(24, func(from, to int) bool { return from/6 == to/6 && to%6 == (from+1)%6 }),
		{4, edges(0, 1, 1, 2, 2, 0, 2, 3)},
		{4, edges(0, 1, 1, 2, 2, 3)},
		{7, edges(0, 1, 1, 2, 2, 0, 3, 4, 4, 5, 5, 3, 6, 6)},
		{7, edges(0, 6, 1, 2, 2, 3, 3, 1, 4, 5, 5, 4, 6, 0)},
	}
	return l
}

func allGraphs() []network {
	return slices.Concat(smallGraphs(), scatteredGraphs(), specialGraphs())
}

// largeGraphs returns the graphs of allGraphs with which more than the tiny ones can go wrong.
func largeGraphs() []network {
	return slices.Concat(tinyGraphs(), scatteredGraphs(), specialGraphs())
}

func (g network) has(from, to int) bool {
	return slices.Contains(g.l, api.Edge{From: from, To: to})
}

// matrix returns for each pair of nodes whether there is an edge.
func (g network) matrix() [][]bool {
	m := make([][]bool, g.n)
	for i := range m {
		m[i] = make([]bool, g.n)
	}
	for _, e := range g.l {
		m[e.From][e.To] = true
	}
	return m
}

// paths returns for each pair of nodes whether there is a path with a length of at least 1 that goes through the first nodes only, for more and more nodes.
func (g network) paths() [][]bool {
	m := g.matrix()
	for k := range m {
		for i := range m {
			for j := range m {
				m[i][j] = m[i][j] || m[i][k] && m[k][j]
			}
		}
	}
	return m
}

// numbers returns the numbers below n that fulfil a condition.
func numbers(n int, condition func(int) bool) []int {
	var l []int
	for i := range n {
		if condition(i) {
			l = append(l, i)
		}
	}
	return l
}

// lists returns all lists of different numbers below n, the shorter ones first, and those of the same length in ascending order.
func lists(n int) [][]int {
	all := [][]int{nil}
	last := all
	for range n {
		var next [][]int
		for _, l := range last {
			for i := range n {
				if !slices.Contains(l, i) {
					next = append(next, append(slices.Clone(l), i))
				}
			}
		}
		all = append(all, next...)
		last = next
	}
	return all
}

// isOrder returns whether a list has all nodes, and respects the edges.
func (g network) isOrder(l []int) bool {
	sorted := slices.Sorted(slices.Values(l))
	if !slices.Equal(sorted, numbers(g.n, func(int) bool { return true })) {
		return false
	}
	for _, e := range g.l {
		if slices.Index(l, e.From) >= slices.Index(l, e.To) {
			return false
		}
	}
	return true
}

// isCycle returns whether a list is a cycle.
func (g network) isCycle(l []int) bool {
	for i, node := range l {
		if slices.Contains(l[:i], node) || !g.has(node, l[(i+1)%len(l)]) {
			return false
		}
	}
	return len(l) > 0
}

// longest returns the length of a longest path to a node, among those with at most bound edges.
func (g network) longest(node, bound int) int {
	length := 0
	for _, e := range g.l {
		if bound > 0 && e.To == node {
			length = max(length, g.longest(e.From, bound-1)+1)
		}
	}
	return length
}

// noGraph is what is no graph, and why.
type noGraph struct {
	n int
	l []api.Edge
	e api.Errno
}

// noGraphs returns what is no graph, with several errors at once too.
func noGraphs() []noGraph {
	tooMany := fromRule(45, func(from, to int) bool { return true }).l
	oneTooMany := tooMany[:api.MaxEdges+1]
	unordered := slices.Repeat(edges(0, 0), api.MaxEdges+1)
	l := []noGraph{
		{45, tooMany, api.ErrLimit},
		{45, oneTooMany, api.ErrLimit},
		{1, unordered, api.ErrLimit},
		{0, oneTooMany, api.ErrLimit},
		{0, edges(0, 0), api.ErrRange},
		{3, edges(0, 1, 0, 1), api.ErrOrder},
		{3, edges(0, 0, 0, 0), api.ErrOrder},
		{3, edges(0, 2, 0, 1), api.ErrOrder},
		{3, edges(1, 0, 0, 2), api.ErrOrder},
		{3, edges(1, 0, 0, 0), api.ErrOrder},
		{3, edges(0, 1, 1, 2, 1, 1, 2, 0), api.ErrOrder},
		{3, edges(1, 0, 0, 3), api.ErrRange},
		{3, edges(1, 0, -1, 0), api.ErrRange},
		{3, edges(1, 0, 0, 0, 3, 0), api.ErrOrder},
		{3, edges(0, 1, 3, 0, 0, 0), api.ErrRange},
		{3, edges(0, 1, 0, 3, 0, 2), api.ErrRange},
		{3, edges(0, 1, 1, 2, 2, 0, 0, 1), api.ErrOrder},
		{api.MaxGraph, edges(api.MaxGraph-1, api.MaxGraph), api.ErrRange},
		{api.MaxGraph, edges(api.MaxGraph, 0), api.ErrRange},
	}
	for _, n := range []int{-1, -2, -api.MaxGraph, least, api.MaxGraph + 1, api.MaxInt, greatest} {
		l = append(l, noGraph{n, nil, api.ErrRange}, noGraph{n, oneTooMany, api.ErrRange}, noGraph{n, edges(0, 1, 0, 1), api.ErrRange})
	}
	for _, node := range []int{-1, 3, 4, least, greatest} {
		l = append(l, noGraph{3, edges(0, node), api.ErrRange}, noGraph{3, edges(node, 0), api.ErrRange}, noGraph{3, edges(0, 1, 1, node), api.ErrRange}, noGraph{3, edges(0, 1, node, 0), api.ErrRange}, noGraph{3, edges(node, node), api.ErrRange})
	}
	return l
}

// order returns the order of a graph, or none if there is a cycle.
func order(t *testing.T, g network) ([]int, bool) {
	t.Helper()
	l, e := digraph.Order(g.n, g.l)
	if e != api.OK && (e != api.ErrCycle || len(l) != 0) {
		t.Fatalf("Order(%d, %d): %d, %d", g.n, g.l, l, e)
	}
	return l, e == api.OK
}

// cycle returns a shortest cycle of a graph, if there is one.
func cycle(t *testing.T, g network) ([]int, bool) {
	t.Helper()
	l, e := digraph.Cycle(g.n, g.l)
	if e != api.OK && (e != api.ErrNotFound || len(l) != 0) {
		t.Fatalf("Cycle(%d, %d): %d, %d", g.n, g.l, l, e)
	}
	return l, e == api.OK
}

func TestP3_1Check(t *testing.T) {
	for _, g := range allGraphs() {
		if e := digraph.Check(g.n, g.l); e != api.OK {
			t.Errorf("P3.1: Check(%d, %d): %d", g.n, g.l, e)
		}
	}
	full := fromRule(45, func(from, to int) bool { return true }).l[:api.MaxEdges]
	if e := digraph.Check(45, full); e != api.OK {
		t.Errorf("P3.1: Check of %d edges: %d", len(full), e)
	}
}

func TestP3_1CheckErrors(t *testing.T) {
	for _, c := range noGraphs() {
		if e := digraph.Check(c.n, c.l); e != c.e {
			t.Errorf("P3.1: Check(%d, %d): %d instead of %d", c.n, c.l[:min(len(c.l), 9)], e, c.e)
		}
	}
}

// TestP3_1NoGraphs has the other functions with arguments that are no graph.
func TestP3_1NoGraphs(t *testing.T) {
	for _, c := range noGraphs() {
		for _, from := range []int{-1, 0, 1, least, greatest} {
			if l := digraph.Reach(c.n, c.l, from); len(l) != 0 {
				t.Errorf("P3.1: Reach(%d, .., %d) of no graph: %d", c.n, from, l)
			}
		}
		if l := digraph.Components(c.n, c.l); len(l) != 0 {
			t.Errorf("P3.1: Components(%d, ..) of no graph: %d", c.n, l)
		}
		if l, e := digraph.Order(c.n, c.l); len(l) != 0 || e != api.ErrArgument {
			t.Errorf("P3.1: Order(%d, ..) of no graph: %d, %d", c.n, l, e)
		}
		if l, e := digraph.Cycle(c.n, c.l); len(l) != 0 || e != api.ErrArgument {
			t.Errorf("P3.1: Cycle(%d, ..) of no graph: %d, %d", c.n, l, e)
		}
		if l, e := digraph.Ranks(c.n, c.l); len(l) != 0 || e != api.ErrArgument {
			t.Errorf("P3.1: Ranks(%d, ..) of no graph: %d, %d", c.n, l, e)
		}
		if l, e := digraph.Closure(c.n, c.l); len(l) != 0 || e != api.ErrArgument {
			t.Errorf("P3.1: Closure(%d, ..) of no graph: %d, %d", c.n, l, e)
		}
	}
}

func TestP3_1Examples(t *testing.T) {
	g := network{4, edges(0, 1, 1, 2, 2, 0, 2, 3)}
	if l := digraph.Components(g.n, g.l); len(l) != 2 || !slices.Equal(l[0], []int{0, 1, 2}) || !slices.Equal(l[1], []int{3}) {
		t.Errorf("P3.1: Components: %d", l)
	}
	if l := digraph.Reach(g.n, g.l, 3); !slices.Equal(l, []int{3}) {
		t.Errorf("P3.1: Reach: %d", l)
	}
	if l, e := digraph.Cycle(g.n, g.l); !slices.Equal(l, []int{0, 1, 2}) || e != api.OK {
		t.Errorf("P3.1: Cycle: %d, %d", l, e)
	}
	l := edges(0, 1, 1, 2, 2, 3)
	if order, e := digraph.Order(4, l); !slices.Equal(order, []int{0, 1, 2, 3}) || e != api.OK {
		t.Errorf("P3.1: Order: %d, %d", order, e)
	}
	if ranks, e := digraph.Ranks(4, l); !slices.Equal(ranks, []int{0, 1, 2, 3}) || e != api.OK {
		t.Errorf("P3.1: Ranks: %d, %d", ranks, e)
	}
}

func TestP3_1NoNodes(t *testing.T) {
	if e := digraph.Check(0, nil); e != api.OK {
		t.Errorf("P3.1: Check: %d", e)
	}
	if l := digraph.Reach(0, nil, 0); len(l) != 0 {
		t.Errorf("P3.1: Reach: %d", l)
	}
	if l := digraph.Components(0, nil); len(l) != 0 {
		t.Errorf("P3.1: Components: %d", l)
	}
	if l, e := digraph.Order(0, nil); len(l) != 0 || e != api.OK {
		t.Errorf("P3.1: Order: %d, %d", l, e)
	}
	if l, e := digraph.Cycle(0, nil); len(l) != 0 || e != api.ErrNotFound {
		t.Errorf("P3.1: Cycle: %d, %d", l, e)
	}
	if l, e := digraph.Ranks(0, nil); len(l) != 0 || e != api.OK {
		t.Errorf("P3.1: Ranks: %d, %d", l, e)
	}
	if l, e := digraph.Closure(0, nil); len(l) != 0 || e != api.OK {
		t.Errorf("P3.1: Closure: %d, %d", l, e)
	}
}

func TestP3_1Reach(t *testing.T) {
	for _, g := range allGraphs() {
		paths := g.paths()
		for from := range g.n {
			want := numbers(g.n, func(node int) bool { return node == from || paths[from][node] })
			if l := digraph.Reach(g.n, g.l, from); !slices.Equal(l, want) {
				t.Errorf("P3.1: Reach(%d, %d, %d): %d instead of %d", g.n, g.l, from, l, want)
			}
		}
		for _, from := range []int{-1, g.n, g.n + 1, api.MaxGraph, least, greatest} {
			if l := digraph.Reach(g.n, g.l, from); len(l) != 0 {
				t.Errorf("P3.1: Reach(%d, .., %d): %d", g.n, from, l)
			}
		}
	}
}

func TestP3_1Components(t *testing.T) {
	for _, g := range allGraphs() {
		paths := g.paths()
		var want [][]int
		for first := range g.n {
			class := numbers(g.n, func(node int) bool { return node == first || paths[first][node] && paths[node][first] })
			if !slices.ContainsFunc(want, func(c []int) bool { return slices.Contains(c, first) }) {
				want = append(want, class)
			}
		}
		if l := digraph.Components(g.n, g.l); !slices.EqualFunc(l, want, slices.Equal) {
			t.Errorf("P3.1: Components(%d, %d): %d instead of %d", g.n, g.l, l, want)
		}
	}
}

// checkFirst compares what was found in a graph, if anything, with the first list of nodes that fulfils a condition.
func checkFirst(t *testing.T, function string, g network, l []int, found bool, condition func([]int) bool) {
	t.Helper()
	all := lists(g.n)
	want := slices.IndexFunc(all, condition)
	if found != (want >= 0) || found && !slices.Equal(l, all[want]) {
		t.Errorf("P3.1: %s(%d, %d): %d", function, g.n, g.l, l)
	}
}

func TestP3_1Order(t *testing.T) {
	for _, g := range smallGraphs() {
		l, found := order(t, g)
		checkFirst(t, "Order", g, l, found, g.isOrder)
	}
}

func TestP3_1Cycle(t *testing.T) {
	for _, g := range append(smallGraphs(), scattered(5, 2, 1, true), scattered(5, 5, 2, true), scattered(6, 4, 3, true), scattered(6, 6, 4, true), scattered(7, 7, 5, true)) {
		l, found := cycle(t, g)
		checkFirst(t, "Cycle", g, l, found, g.isCycle)
	}
}

// TestP3_1CycleOfMany has several shortest cycles, of which the least node or the next nodes decide.
func TestP3_1CycleOfMany(t *testing.T) {
	for _, c := range []struct {
		g    network
		want []int
	}{
		{network{1, edges(0, 0)}, []int{0}},
		{network{api.MaxGraph, edges(199, 199)}, []int{199}},
		{network{7, edges(0, 1, 1, 2, 2, 0, 3, 4, 4, 5, 5, 3, 6, 6)}, []int{6}},
		{network{6, edges(0, 1, 1, 2, 2, 0, 4, 5, 5, 4)}, []int{4, 5}},
		{network{6, edges(0, 4, 0, 5, 1, 0, 2, 0, 4, 2, 5, 1)}, []int{0, 4, 2}},
		{network{6, edges(0, 4, 0, 5, 1, 0, 2, 0, 4, 2, 4, 3, 5, 1)}, []int{0, 4, 2}},
		{network{8, edges(0, 1, 0, 2, 1, 3, 2, 6, 3, 5, 5, 0, 6, 0)}, []int{0, 2, 6}},
		{network{8, edges(0, 1, 0, 2, 0, 3, 1, 4, 2, 7, 3, 6, 4, 1, 6, 0, 7, 0)}, []int{1, 4}},
		{network{6, nil}, nil},
		{network{5, edges(0, 3, 0, 4, 1, 0, 2, 0, 3, 2, 4, 1)}, []int{0, 3, 2}},
	} {
		if l, found := cycle(t, c.g); found != (c.want != nil) || !slices.Equal(l, c.want) {
			t.Errorf("P3.1: Cycle(%d, %d): %d instead of %d", c.g.n, c.g.l, l, c.want)
		}
	}
}

func TestP3_1Ranks(t *testing.T) {
	for _, g := range smallGraphs() {
		l, e := digraph.Ranks(g.n, g.l)
		if _, ordered := order(t, g); !ordered {
			if len(l) != 0 || e != api.ErrCycle {
				t.Errorf("P3.1: Ranks(%d, %d): %d, %d", g.n, g.l, l, e)
			}
			continue
		}
		if len(l) != g.n || e != api.OK {
			t.Fatalf("P3.1: Ranks(%d, %d): %d, %d", g.n, g.l, l, e)
		}
		for node := range g.n {
			if want := g.longest(node, g.n); l[node] != want {
				t.Errorf("P3.1: Ranks(%d, %d): %d instead of %d for %d", g.n, g.l, l[node], want, node)
			}
		}
	}
}

func TestP3_1Closure(t *testing.T) {
	limits := 0
	for _, g := range allGraphs() {
		paths := g.paths()
		want := fromRule(g.n, func(from, to int) bool { return paths[from][to] }).l
		e := api.OK
		if len(want) > api.MaxEdges {
			want, e = nil, api.ErrLimit
			limits++
		}
		if l, e1 := digraph.Closure(g.n, g.l); !slices.Equal(l, want) || e1 != e {
			t.Errorf("P3.1: Closure(%d, %d): %d, %d instead of %d, %d", g.n, g.l, l, e1, want, e)
		}
	}
	if limits < 10 {
		t.Errorf("P3.1: only %d closures have too many edges", limits)
	}
}

// TestP3_1ClosureLimit has a cycle of 44 nodes, whose closure has 1936 edges, and edges between other nodes.
func TestP3_1ClosureLimit(t *testing.T) {
	for _, c := range []struct {
		pairs int
		e     api.Errno
	}{{63, api.OK}, {64, api.OK}, {65, api.ErrLimit}} {
		n := 44 + 2*c.pairs
		g := fromRule(n, func(from, to int) bool {
			if from < 44 {
				return to == (from+1)%44
			}
			return from%2 == 0 && to == from+1
		})
		size := 1936 + c.pairs
		if c.e != api.OK {
			size = 0
		}
		if l, e := digraph.Closure(g.n, g.l); len(l) != size || e != c.e {
			t.Errorf("P3.1: Closure with %d pairs: %d edges, %d", c.pairs, len(l), e)
		}
	}
}

// TestP3_1Results changes what was returned, which changes neither the arguments nor other results.
func TestP3_1Results(t *testing.T) {
	g := fromRule(12, func(from, to int) bool { return from/3 == to/3 })
	l := slices.Clone(g.l)
	for range 2 {
		classes := digraph.Components(g.n, g.l)
		if !slices.EqualFunc(classes, [][]int{{0, 1, 2}, {3, 4, 5}, {6, 7, 8}, {9, 10, 11}}, slices.Equal) {
			t.Fatalf("P3.1: Components: %d", classes)
		}
		_ = append(classes[0], -1)
		classes[1][0] = -1
		if classes[0][2] != 2 || classes[2][0] != 6 {
			t.Errorf("P3.1: Components share memory: %d", classes)
		}
		closure, e := digraph.Closure(g.n, g.l)
		if !slices.Equal(closure, l) || e != api.OK {
			t.Fatalf("P3.1: Closure: %d, %d", closure, e)
		}
		clear(closure)
		clear(digraph.Reach(g.n, g.l, 4))
		if cycle, e := digraph.Cycle(g.n, g.l); e != api.OK || !slices.Equal(cycle, []int{0}) {
			t.Errorf("P3.1: Cycle: %d, %d", cycle, e)
		}
		if !slices.Equal(g.l, l) {
			t.Fatalf("P3.1: the argument is changed: %d", g.l)
		}
	}
}

func TestP3_2Reachability(t *testing.T) {
	for _, g := range largeGraphs() {
		for from := range g.n {
			l := digraph.Reach(g.n, g.l, from)
			if !slices.Contains(l, from) || !slices.IsSorted(l) || len(slices.Compact(slices.Clone(l))) != len(l) {
				t.Fatalf("P3.2: Reach(%d, %d, %d): %d", g.n, g.l, from, l)
			}
			reached := make([]bool, g.n)
			for _, node := range l {
				reached[node] = true
			}
			entered := make([]bool, g.n)
			for _, e := range g.l {
				if reached[e.From] {
					entered[e.To] = true
				}
			}
			for node := range g.n {
				if entered[node] && !reached[node] || reached[node] && node != from && !entered[node] {
					t.Errorf("P3.2: Reach(%d, %d, %d): %d, and the node %d", g.n, g.l, from, l, node)
				}
			}
		}
	}
}

func TestP3_3Components(t *testing.T) {
	for _, g := range largeGraphs() {
		classes := digraph.Components(g.n, g.l)
		number := slices.Repeat([]int{-1}, g.n)
		for i, class := range classes {
			if len(class) == 0 || !slices.IsSorted(class) || i > 0 && class[0] <= classes[i-1][0] {
				t.Fatalf("P3.3: Components(%d, %d): %d", g.n, g.l, classes)
			}
			for _, node := range class {
				if number[node] >= 0 {
					t.Errorf("P3.3: Components(%d, %d): %d twice", g.n, g.l, node)
				}
				number[node] = i
			}
		}
		reach := make([][]int, g.n)
		for node := range reach {
			reach[node] = digraph.Reach(g.n, g.l, node)
		}
		for a := range g.n {
			for b := range a + 1 {
				_, to := slices.BinarySearch(reach[a], b)
				_, back := slices.BinarySearch(reach[b], a)
				if number[a] < 0 || (number[a] == number[b]) != (to && back) {
					t.Errorf("P3.3: Components(%d, %d): %d, and the nodes %d and %d", g.n, g.l, classes, a, b)
				}
			}
		}
	}
}

func TestP3_4Orders(t *testing.T) {
	count := 0
	for _, g := range largeGraphs() {
		l, found := order(t, g)
		if !found {
			continue
		}
		count++
		if !g.isOrder(l) {
			t.Fatalf("P3.4: Order(%d, %d): %d", g.n, g.l, l)
		}
		edge := g.matrix()
		for i, node := range l {
			for other := range node {
				before := l[:i]
				ready := !slices.Contains(before, other)
				for p := range g.n {
					ready = ready && (!edge[p][other] || slices.Contains(before, p))
				}
				if ready {
					t.Fatalf("P3.4: Order(%d, %d): %d, where %d could stand before %d", g.n, g.l, l, other, node)
				}
			}
		}
	}
	if count < 100 {
		t.Errorf("P3.4: only %d orders", count)
	}
}

// shortestReturns returns for each node the least number of edges by which it reaches itself; 0 if it does not. The nodes that can be reached by exactly k edges are found from those by k - 1 edges.
func shortestReturns(g network) []int {
	returns := make([]int, g.n)
	for from := range g.n {
		now := make([]bool, g.n)
		now[from] = true
		for k := 1; k <= g.n && returns[from] == 0; k++ {
			next := make([]bool, g.n)
			for _, e := range g.l {
				next[e.To] = next[e.To] || now[e.From]
			}
			now = next
			if now[from] {
				returns[from] = k
			}
		}
	}
	return returns
}

func TestP3_5Cycles(t *testing.T) {
	for _, g := range largeGraphs() {
		l, found := cycle(t, g)
		if _, ordered := order(t, g); found == ordered {
			t.Errorf("P3.5: (%d, %d) has the cycle %d", g.n, g.l, l)
		}
		if !found {
			continue
		}
		if !g.isCycle(l) || slices.Min(l) != l[0] {
			t.Fatalf("P3.5: Cycle(%d, %d): %d", g.n, g.l, l)
		}
		for node, k := range shortestReturns(g) {
			if k > 0 && (k < len(l) || k == len(l) && node < l[0]) {
				t.Errorf("P3.5: Cycle(%d, %d): %d, but %d reaches itself by %d edges", g.n, g.l, l, node, k)
			}
		}
	}
}

func TestP3_6Ranks(t *testing.T) {
	count := 0
	for _, g := range largeGraphs() {
		l, e := digraph.Ranks(g.n, g.l)
		if _, ordered := order(t, g); !ordered {
			if len(l) != 0 || e != api.ErrCycle {
				t.Errorf("P3.6: Ranks(%d, %d): %d, %d", g.n, g.l, l, e)
			}
			continue
		}
		if len(l) != g.n || e != api.OK {
			t.Fatalf("P3.6: Ranks(%d, %d): %d, %d", g.n, g.l, l, e)
		}
		count++
		want := make([]int, g.n)
		for _, edge := range g.l {
			if l[edge.From] >= l[edge.To] {
				t.Errorf("P3.6: Ranks(%d, %d): %d, which do not increase from %d to %d", g.n, g.l, l, edge.From, edge.To)
			}
			want[edge.To] = max(want[edge.To], l[edge.From]+1)
		}
		if !slices.Equal(l, want) {
			t.Errorf("P3.6: Ranks(%d, %d): %d instead of %d", g.n, g.l, l, want)
		}
	}
	if count < 100 {
		t.Errorf("P3.6: only %d ranks", count)
	}
}

func TestP3_7Closure(t *testing.T) {
	for _, g := range largeGraphs() {
		l, e := digraph.Closure(g.n, g.l)
		if e != api.OK {
			continue
		}
		closed := network{g.n, l}
		edge := closed.matrix()
		loop := false
		for _, e := range g.l {
			if !edge[e.From][e.To] {
				t.Errorf("P3.7: Closure(%d, %d) does not contain %d", g.n, g.l, e)
			}
		}
		for a := range g.n {
			loop = loop || edge[a][a]
			for _, e := range l {
				if edge[a][e.From] && !edge[a][e.To] {
					t.Errorf("P3.7: Closure(%d, %d) has no edge from %d to %d", g.n, g.l, a, e.To)
				}
			}
		}
		if again, e := digraph.Closure(g.n, l); !slices.Equal(again, l) || e != api.OK {
			t.Errorf("P3.7: Closure(%d, %d), and its closure: %d, %d, %d", g.n, g.l, l, again, e)
		}
		if _, found := cycle(t, g); loop != found {
			t.Errorf("P3.7: Closure(%d, %d): %d", g.n, g.l, l)
		}
	}
}
