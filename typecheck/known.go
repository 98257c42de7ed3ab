package typecheck

import (
	"slices"

	"nursery/api"
)

// known is a source, and what the names in it mean: the first declaration, and the first procedure, with a name counts.
type known struct {
	api.Source
	decls, procs map[string]int // the indices of the first ones
	rules        map[int]rule
}

func knownOf(src api.Source) known {
	return known{
		Source: src,
		decls:  firsts(src.Decls, func(d api.Decl) string { return d.Name }),
		procs:  firsts(src.Procs, func(p api.Proc) string { return p.Name }),
		rules:  allRules(),
	}
}

// firsts returns the index of the first element with each name.
func firsts[T any](l []T, nameOf func(T) string) map[string]int {
	indices := map[string]int{}
	for i, x := range slices.Backward(l) {
		indices[nameOf(x)] = i
	}
	return indices
}

// kindOf returns the Kind of the declaration of a name, or 0 if there is none.
func (k known) kindOf(name string) int {
	if i, has := k.decls[name]; has {
		return k.Decls[i].Kind
	}
	return 0
}

func isVariable(kind int) bool {
	return kind == api.VarDecl || kind == api.AtomicDecl
}

func (k known) checkDecl(i int) api.Errno {
	d := k.Decls[i]
	switch {
	case k.decls[d.Name] < i:
		return api.ErrExists
	case isOneTooMany(d, k.Decls[:i]):
		return api.ErrLimit
	case !isInRange(d):
		return api.ErrRange
	case d.Kind == api.CondKind:
		return k.checkObject(d.Name2, api.MutexKind)
	}
	return api.OK
}

// isOneTooMany reports whether there are as many objects, or variables, before a declaration as there may be.
func isOneTooMany(d api.Decl, before []api.Decl) bool {
	objects, variables := 0, 0
	for _, other := range before {
		if isVariable(other.Kind) {
			variables++
		} else {
			objects++
		}
	}
	if isVariable(d.Kind) {
		return variables >= api.MaxVars
	}
	return objects >= api.MaxObjects
}

// isInRange reports whether an object can have its size. (The time of a limiter is nowhere greater than MaxTime.)
func isInRange(d api.Decl) bool {
	switch d.Kind {
	case api.SemaphoreKind, api.BarrierKind, api.TopicKind:
		return d.A >= 1 && d.A <= api.MaxSize
	case api.LimiterKind:
		return d.A >= 1 && d.A <= api.MaxSize && d.B >= 1
	case api.ChannelKind:
		return d.A <= api.MaxSize
	}
	return true
}

// checkObject returns why a name is not that of an object of a kind.
func (k known) checkObject(name string, kind int) api.Errno {
	switch k.kindOf(name) {
	case kind:
		return api.OK
	case 0:
		return api.ErrNotFound
	}
	return api.ErrKind
}

func (k known) checkProc(i int) api.Errno {
	p := k.Procs[i]
	switch {
	case k.procs[p.Name] < i:
		return api.ErrExists
	case i == 0 && (p.Kind != api.TaskProc || len(p.Params) > 0):
		return api.ErrConflict
	}
	for j, name := range p.Params {
		if k.kindOf(name) != 0 || slices.Contains(p.Params[:j], name) {
			return api.ErrExists
		}
	}
	return api.OK
}

// checkUse returns why a statement cannot use a procedure of a kind.
func (k known) checkUse(s api.Stmt, kind int) api.Errno {
	i, has := k.procs[s.Name]
	switch {
	case !has:
		return api.ErrNotFound
	case k.Procs[i].Kind != kind:
		return api.ErrKind
	case len(k.Procs[i].Params) != len(s.Exprs):
		return api.ErrMismatch
	}
	return api.OK
}

// allUses returns which procedures use which ones, as often as they do.
func (k known) allUses() []api.Edge {
	var l []api.Edge
	for i, p := range k.Procs {
		for s := range preorder(p.Body) {
			switch s.Kind {
			case api.SpawnStmt, api.CallStmt, api.DeferStmt:
				l = append(l, api.Edge{From: i, To: k.procs[s.Name]})
			}
		}
	}
	return l
}

// reach notes which procedures a procedure uses, directly or by others, and itself.
func reach(uses []api.Edge, proc int, reached []bool) {
	if reached[proc] {
		return
	}
	reached[proc] = true
	for _, e := range uses {
		if e.From == proc {
			reach(uses, e.To, reached)
		}
	}
}

// ownWrites returns the declared variables that the statements of a procedure change, as often as they do.
func (k known) ownWrites(p api.Proc) []string {
	var l []string
	for s := range preorder(p.Body) {
		switch s.Kind {
		case api.AssignStmt, api.AddStmt, api.SwapStmt:
			if isVariable(k.kindOf(s.Name)) {
				l = append(l, s.Name)
			}
		}
	}
	return l
}
