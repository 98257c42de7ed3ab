package syntax

import (
	"slices"

	"nursery/api"
	"nursery/expr"
	"nursery/lexer"
)

// areNames reports whether all elements of l are names that are not reserved.
func areNames(l ...string) bool {
	for _, s := range l {
		if expr.Check(api.Expr{Kind: api.NameExpr, Name: s}) != api.OK || lexer.Keyword(s) {
			return false
		}
	}
	return true
}

func checkExpr(e api.Expr) api.Errno {
	if err := expr.Check(e); err != api.OK {
		return err
	}
	if slices.ContainsFunc(expr.Names(e), lexer.Keyword) {
		return api.ErrName
	}
	return api.OK
}

func checkDecl(d api.Decl) api.Errno {
	f, found := declShapeOf(d)
	switch {
	case !found:
		return api.ErrKind
	case !f.hasA && d.A != 0 || f.mostB == 0 && d.B != 0 || !f.hasName2 && d.Name2 != "":
		return api.ErrArgument
	case !areNames(d.Name) || f.hasName2 && !areNames(d.Name2):
		return api.ErrName
	case d.A < f.leastA || d.A > api.MaxInt || d.B < 0 || d.B > f.mostB:
		return api.ErrRange
	}
	return api.OK
}

func (l shapes) checkProc(p api.Proc) api.Errno {
	switch {
	case p.Kind < api.TaskProc || p.Kind > api.CleanupProc:
		return api.ErrKind
	case !areNames(p.Name):
		return api.ErrName
	case len(p.Params) > api.MaxArgs:
		return api.ErrLimit
	case !areNames(p.Params...):
		return api.ErrName
	case p.Priority < 0 || p.Priority > maxPriority || p.Priority != 0 && p.Kind != api.TaskProc:
		return api.ErrRange
	}
	for s := range preorder(p.Body) {
		if err := l.checkStmt(s); err != api.OK {
			return err
		}
	}
	return api.OK
}

// checkStmt returns why a statement is not valid, whatever the statements within it are.
func (l shapes) checkStmt(s api.Stmt) api.Errno {
	f, found := l.of(s)
	switch {
	case !found || slices.ContainsFunc(s.Cases, hasNoKind):
		return api.ErrKind
	case !f.fits(s) || slices.ContainsFunc(s.Cases, isMisshapen):
		return api.ErrArgument
	case !f.hasNames(s) || slices.ContainsFunc(s.Cases, isMisnamed):
		return api.ErrName
	case hasSeveralDefaults(s):
		return api.ErrExists
	}
	for e := range expressions(s) {
		if err := checkExpr(e); err != api.OK {
			return err
		}
	}
	if s.Kind == api.BeginStmt && s.Exprs[0].Kind != api.NumberExpr {
		return api.ErrArgument
	}
	return api.OK
}

// fits reports whether a statement has the fields that it must have, and no others.
func (f shape) fits(s api.Stmt) bool {
	return s.Op == f.op && (f.named || s.Name == "") && f.names.allows(len(s.Names)) && f.exprs.allows(len(s.Exprs)) &&
		(f.body || len(s.Body) == 0) && (f.orElse || len(s.Else) == 0) && f.cases.allows(len(s.Cases))
}

// hasNames reports whether the names in a statement that fits are names.
func (f shape) hasNames(s api.Stmt) bool {
	isNameless := !f.named || f.nameless && s.Name == ""
	return (isNameless || areNames(s.Name)) && areNames(s.Names...)
}

func hasNoKind(c api.Case) bool {
	return c.Kind < api.SendCase || c.Kind > api.DefaultCase
}

// isMisshapen reports whether a case lacks a field that it must have, or has another one.
func isMisshapen(c api.Case) bool {
	switch c.Kind {
	case api.SendCase:
		return len(c.Names) != 0
	case api.ReceiveCase:
		return !isZero(c.Expr) || len(c.Names) != 2
	}
	return c.Name != "" || !isZero(c.Expr) || len(c.Names) != 0
}

// isMisnamed reports whether something in a case that is not misshapen should be a name, and is none.
func isMisnamed(c api.Case) bool {
	return c.Kind != api.DefaultCase && !areNames(c.Name) || !areNames(c.Names...)
}

func hasSeveralDefaults(s api.Stmt) bool {
	n := 0
	for _, c := range s.Cases {
		if c.Kind == api.DefaultCase {
			n++
		}
	}
	return n > 1
}
