package partialorder

import (
	"iter"
	"slices"

	"nursery/api"
)

// relation has a row for each element i, which says for each element j whether the pair (i, j) is in the relation.
type relation [][]bool

func newRelation(n int, l []api.Edge) relation {
	r := make(relation, n)
	for i := range r {
		r[i] = make([]bool, n)
	}
	for _, p := range l {
		r[p.From][p.To] = true
	}
	return r
}

func (r relation) has(i, j int) bool {
	return r[i][j]
}

// hasLoop reports whether there is a pair of an element with itself.
func (r relation) hasLoop() bool {
	for i, row := range r {
		if row[i] {
			return true
		}
	}
	return false
}

// hasBetween reports whether there is an element behind i and before j.
func (r relation) hasBetween(i, j int) bool {
	for k := range r {
		if r[i][k] && r[k][j] {
			return true
		}
	}
	return false
}

// isTransitive reports whether each row contains the rows of its elements.
func (r relation) isTransitive() bool {
	for _, row := range r {
		for j, next := range r {
			if row[j] && !contains(row, next) {
				return false
			}
		}
	}
	return true
}

// contains reports whether each element of the row inner is in the row outer, too.
func contains(outer, inner []bool) bool {
	for k, in := range inner {
		if in && !outer[k] {
			return false
		}
	}
	return true
}

// complete makes the relation transitive, by adding the pairs that lead through an element, for one element after the other.
func (r relation) complete() {
	for j, next := range r {
		for _, row := range r {
			if row[j] {
				include(row, next)
			}
		}
	}
}

// include adds the elements of a row to another one.
func include(row, more []bool) {
	for k, in := range more {
		row[k] = row[k] || in
	}
}

// elements returns what is left before any element is used: for each element, the number of unused elements before it. Elements that are used have the number -1.
func (r relation) elements() []int {
	left := make([]int, len(r))
	for _, row := range r {
		for j, in := range row {
			if in {
				left[j]++
			}
		}
	}
	return left
}

// without returns what is left when one more element is used.
func (r relation) without(left []int, i int) []int {
	rest := slices.Clone(left)
	rest[i] = -1
	for j, in := range r[i] {
		if in {
			rest[j]--
		}
	}
	return rest
}

// minimal yields the unused elements that have no unused element before them, in ascending order.
func minimal(left []int) iter.Seq[int] {
	return func(yield func(int) bool) {
		for i, before := range left {
			if before == 0 && !yield(i) {
				return
			}
		}
	}
}

// extensions yields the linear extensions of a strict partial order, in ascending order.
func (r relation) extensions() iter.Seq[[]int] {
	return func(yield func([]int) bool) {
		var extend func(start, left []int) bool
		extend = func(start, left []int) bool {
			if len(start) == len(r) {
				// The other extensions with the same beginning overwrite start.
				return yield(slices.Clone(start))
			}
			for i := range minimal(left) {
				if !extend(append(start, i), r.without(left, i)) {
					return false
				}
			}
			return true
		}
		extend(nil, r.elements())
	}
}
