package syntax

import (
	"iter"
	"slices"

	"nursery/api"
	"nursery/expr"
)

// preorder yields statements and all those within them, with their depths. It does not end if a statement contains itself.
func preorder(body []api.Stmt) iter.Seq2[api.Stmt, int] {
	return func(yield func(api.Stmt, int) bool) {
		visit(body, 1, yield)
	}
}

// visit reports whether all statements were yielded.
func visit(body []api.Stmt, depth int, yield func(api.Stmt, int) bool) bool {
	for _, s := range body {
		if !yield(s, depth) {
			return false
		}
		for inner := range bodies(s) {
			if !visit(inner, depth+1, yield) {
				return false
			}
		}
	}
	return true
}

// bodies yields the lists of statements directly within a statement.
func bodies(s api.Stmt) iter.Seq[[]api.Stmt] {
	return func(yield func([]api.Stmt) bool) {
		if !yield(s.Body) || !yield(s.Else) {
			return
		}
		for _, c := range s.Cases {
			if !yield(c.Body) {
				return
			}
		}
	}
}

// expressions yields the expressions of a statement and of its cases, without zero expressions where there may be none.
func expressions(s api.Stmt) iter.Seq[api.Expr] {
	return func(yield func(api.Expr) bool) {
		for _, e := range s.Exprs {
			if (s.Kind != api.ScopeStmt || !isZero(e)) && !yield(e) {
				return
			}
		}
		for _, c := range s.Cases {
			if (c.Kind == api.SendCase || !isZero(c.Expr)) && !yield(c.Expr) {
				return
			}
		}
	}
}

// parts yields an expression and all those within it. It does not end if one contains itself.
func parts(e api.Expr) iter.Seq[api.Expr] {
	return func(yield func(api.Expr) bool) {
		var visit func(part api.Expr) bool
		visit = func(part api.Expr) bool {
			if !yield(part) {
				return false
			}
			for _, arg := range part.Args {
				if !visit(arg) {
					return false
				}
			}
			return true
		}
		visit(e)
	}
}

// ownSize returns what a statement adds to the size of a source, without the statements within it; or some number that is too great.
func ownSize(s api.Stmt) int {
	size := 1 + len(s.Cases)
	for e := range expressions(s) {
		if isZero(e) {
			continue
		}
		for range parts(e) {
			size++
			if size > api.MaxParts {
				return size
			}
		}
	}
	return size
}

func isTooDeep(p api.Proc) bool {
	for _, depth := range preorder(p.Body) {
		if depth > api.MaxDepth {
			return true
		}
	}
	return false
}

func isZero(e api.Expr) bool {
	return e.Kind == 0 && e.Op == 0 && e.Name == "" && e.Value == 0 && len(e.Args) == 0
}

// isSame reports whether two valid sources are equal.
func isSame(a, b api.Source) bool {
	return slices.Equal(a.Decls, b.Decls) && slices.EqualFunc(a.Procs, b.Procs, isSameProc)
}

func isSameProc(a, b api.Proc) bool {
	return a.Kind == b.Kind && a.Name == b.Name && slices.Equal(a.Params, b.Params) && a.Priority == b.Priority && slices.EqualFunc(a.Body, b.Body, isSameStmt)
}

func isSameStmt(a, b api.Stmt) bool {
	return a.Kind == b.Kind && a.Op == b.Op && a.Name == b.Name && slices.Equal(a.Names, b.Names) &&
		slices.EqualFunc(a.Exprs, b.Exprs, isSameExpr) && slices.EqualFunc(a.Body, b.Body, isSameStmt) &&
		slices.EqualFunc(a.Else, b.Else, isSameStmt) && slices.EqualFunc(a.Cases, b.Cases, isSameCase)
}

func isSameCase(a, b api.Case) bool {
	return a.Kind == b.Kind && a.Name == b.Name && isSameExpr(a.Expr, b.Expr) && slices.Equal(a.Names, b.Names) && slices.EqualFunc(a.Body, b.Body, isSameStmt)
}

func isSameExpr(a, b api.Expr) bool {
	return isZero(a) && isZero(b) || expr.Equal(a, b)
}

// clone returns a valid statement in new memory.
func clone(s api.Stmt) api.Stmt {
	s.Names = slices.Clone(s.Names)
	s.Exprs = clones(s.Exprs, cloneExpr)
	s.Body = clones(s.Body, clone)
	s.Else = clones(s.Else, clone)
	s.Cases = clones(s.Cases, cloneCase)
	return s
}

func cloneCase(c api.Case) api.Case {
	c.Expr = cloneExpr(c.Expr)
	c.Names = slices.Clone(c.Names)
	c.Body = clones(c.Body, clone)
	return c
}

func cloneExpr(e api.Expr) api.Expr {
	e.Args = clones(e.Args, cloneExpr)
	return e
}

func clones[T any](l []T, clone func(T) T) []T {
	var result []T
	for _, x := range l {
		result = append(result, clone(x))
	}
	return result
}
