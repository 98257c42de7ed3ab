package digraph

import (
	"cmp"
	"iter"
	"slices"

	"nursery/api"
)

// graph is a graph that Check accepts.
type graph struct {
	nodes int
	edges []api.Edge
}

// successors yields the nodes to which there is an edge from a node, in ascending order.
func (g graph) successors(node int) iter.Seq[int] {
	return func(yield func(int) bool) {
		for _, e := range g.edges[g.firstEdge(node):] {
			if e.From != node || !yield(e.To) {
				return
			}
		}
	}
}

// firstEdge returns the index of the first edge from a node, or the one at which it would stand.
func (g graph) firstEdge(node int) int {
	i, _ := slices.BinarySearchFunc(g.edges, node, func(e api.Edge, from int) int {
		return cmp.Compare(e.From, from)
	})
	return i
}

// ahead returns for each node whether there is a path to it from the node from, with a length of at least 1: so from itself counts only if it lies on a cycle.
func (g graph) ahead(from int) []bool {
	seen := make([]bool, g.nodes)
	var visit func(int)
	visit = func(node int) {
		for next := range g.successors(node) {
			if !seen[next] {
				seen[next] = true
				visit(next)
			}
		}
	}
	visit(from)
	return seen
}

// order returns the least topological order, without the nodes that lie on a cycle or behind one.
func (g graph) order() []int {
	missing := make([]int, g.nodes) // the predecessors of a node that are not in the order yet; -1 if the node is in it
	for _, e := range g.edges {
		missing[e.To]++
	}
	var order []int
	for {
		node := slices.Index(missing, 0)
		if node < 0 {
			return order
		}
		order = append(order, node)
		missing[node] = -1
		for next := range g.successors(node) {
			missing[next]--
		}
	}
}

// distances returns for each node the length of a shortest path to it from the node from, among the paths with a length of at least 1; 0 if there is none.
func (g graph) distances(from int) []int {
	found := make([]int, g.nodes)
	queue := []int{from}
	for len(queue) > 0 {
		node := queue[0]
		queue = queue[1:]
		// An edge from the node to itself changes found[node] in the loop.
		distance := found[node] + 1
		for next := range g.successors(node) {
			if found[next] == 0 {
				found[next] = distance
				queue = append(queue, next)
			}
		}
	}
	return found
}

// shortestCycle returns the least one of the shortest cycles, or no nodes if there is no cycle.
//
// It begins with the least node on all shortest cycles, and goes on with the least node from which the rest of the way back is short enough. No node appears twice: what lies between would be a shorter cycle.
func (g graph) shortestCycle() []int {
	distances := forEachNode(g.nodes, g.distances)
	length, start := 0, 0
	for node := range g.nodes {
		if d := distances[node][node]; d > 0 && (length == 0 || d < length) {
			length, start = d, node
		}
	}
	if length == 0 {
		return nil
	}
	node, cycle := start, []int{start}
	for left := length - 1; left > 0; left-- {
		for next := range g.successors(node) {
			if distances[next][start] == left {
				node = next
				break
			}
		}
		cycle = append(cycle, node)
	}
	return cycle
}

// forEachNode returns what find returns for the nodes.
func forEachNode[T any](n int, find func(int) T) []T {
	var l []T
	for node := range n {
		l = append(l, find(node))
	}
	return l
}

// nodesWith returns the nodes that fulfil a condition, in ascending order.
func nodesWith(n int, condition func(int) bool) []int {
	var l []int
	for node := range n {
		if condition(node) {
			l = append(l, node)
		}
	}
	return l
}
