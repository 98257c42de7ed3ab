package typecheck

import (
	"iter"

	"nursery/api"
)

// place is where a statement stands in its procedure.
type place struct {
	number   int  // in preorder
	enclosed bool // within a scope or a mask
}

// preorder yields statements and all those within them, with their places.
func preorder(body []api.Stmt) iter.Seq2[api.Stmt, place] {
	return func(yield func(api.Stmt, place) bool) {
		number := 0
		var visit func(body []api.Stmt, enclosed bool) bool
		visit = func(body []api.Stmt, enclosed bool) bool {
			for _, s := range body {
				if !yield(s, place{number, enclosed}) {
					return false
				}
				number++
				encloses := enclosed || s.Kind == api.ScopeStmt || s.Kind == api.MaskStmt
				for inner := range bodies(s) {
					if !visit(inner, encloses) {
						return false
					}
				}
			}
			return true
		}
		visit(body, false)
	}
}

// bodies yields the lists of statements directly within a statement.
func bodies(s api.Stmt) iter.Seq[[]api.Stmt] {
	return func(yield func([]api.Stmt) bool) {
		if !yield(s.Body) || !yield(s.Else) {
			return
		}
		for _, c := range s.Cases {
			if !yield(c.Body) {
				return
			}
		}
	}
}
