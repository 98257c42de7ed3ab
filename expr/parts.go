package expr

import (
	"iter"
	"slices"

	"nursery/api"
)

// maxParts is how many parts a valid expression has at most.
const maxParts = 100

// parts yields the parts of e in preorder, with their depths. It ends behind one part more than a valid expression has, because e may contain itself.
func parts(e api.Expr) iter.Seq2[api.Expr, int] {
	return func(yield func(api.Expr, int) bool) {
		left := maxParts + 1
		var visit func(part api.Expr, depth int) bool
		visit = func(part api.Expr, depth int) bool {
			if left == 0 || !yield(part, depth) {
				return false
			}
			left--
			for _, arg := range part.Args {
				if !visit(arg, depth+1) {
					return false
				}
			}
			return true
		}
		visit(e, 1)
	}
}

// checkPart returns why e is not valid, whatever its Args are.
func checkPart(e api.Expr) api.Errno {
	switch e.Kind {
	case api.NumberExpr:
		return checkNumber(e)
	case api.NameExpr:
		return checkNameExpr(e)
	case api.UnaryExpr:
		return checkOperation(e, 1, api.NegOp, api.NotOp)
	case api.BinaryExpr:
		return checkOperation(e, 2, api.PlusOp, api.OrOp)
	}
	return api.ErrKind
}

func checkNumber(e api.Expr) api.Errno {
	if e.Op != 0 || e.Name != "" || len(e.Args) != 0 {
		return api.ErrArgument
	}
	if e.Value < 0 || e.Value > api.MaxInt {
		return api.ErrRange
	}
	return api.OK
}

func checkNameExpr(e api.Expr) api.Errno {
	if e.Op != 0 || e.Value != 0 || len(e.Args) != 0 {
		return api.ErrArgument
	}
	if !isName(e.Name) {
		return api.ErrName
	}
	return api.OK
}

// checkOperation checks an expression that must have a number of arguments, and an operator between two others.
func checkOperation(e api.Expr, args, first, last int) api.Errno {
	if e.Name != "" || e.Value != 0 || len(e.Args) != args {
		return api.ErrArgument
	}
	if e.Op < first || e.Op > last {
		return api.ErrKind
	}
	return api.OK
}

func isName(s string) bool {
	if len(s) < 1 || len(s) > api.MaxName || !isLetter(s[0]) {
		return false
	}
	for i := range len(s) {
		if !isLetter(s[i]) && (s[i] < '0' || s[i] > '9') && s[i] != '_' {
			return false
		}
	}
	return true
}

func isLetter(c byte) bool {
	return c >= 'a' && c <= 'z'
}

// isSame reports whether two valid expressions are equal.
func isSame(a, b api.Expr) bool {
	return a.Kind == b.Kind && a.Op == b.Op && a.Name == b.Name && a.Value == b.Value && slices.EqualFunc(a.Args, b.Args, isSame)
}

// replace returns a valid expression in new memory, in which the greatest parts that are to be replaced are replaced; replacement tells by what, and whether.
func replace(e api.Expr, replacement func(api.Expr) (api.Expr, bool)) api.Expr {
	if by, found := replacement(e); found {
		return by
	}
	result := api.Expr{Kind: e.Kind, Op: e.Op, Name: e.Name, Value: e.Value}
	for _, arg := range e.Args {
		result.Args = append(result.Args, replace(arg, replacement))
	}
	return result
}

// clone returns a valid expression in new memory.
func clone(e api.Expr) api.Expr {
	return replace(e, func(api.Expr) (api.Expr, bool) { return api.Expr{}, false })
}
