package typecheck

import (
	"maps"
	"slices"

	"nursery/api"
	"nursery/expr"
)

const maxLocals = 20

// examiner examines the statements of a procedure one after the other.
type examiner struct {
	known
	kind     int            // of the procedure
	locals   map[string]int // the types of the local variables that are declared so far
	enclosed bool           // the statement stands within a scope or a mask
	first    api.Errno      // the first error of the statement
}

func (k known) examinerOf(p api.Proc) *examiner {
	x := &examiner{known: k, kind: p.Kind, locals: map[string]int{}}
	for _, name := range p.Params {
		x.declare(name, api.IntType)
	}
	return x
}

// examine returns the first error of a statement, and declares its names.
func (x *examiner) examine(s api.Stmt, at place) api.Errno {
	x.enclosed, x.first = at.enclosed, api.OK
	x.rules[s.Kind](x, s)
	return x.first
}

// note keeps an error, unless there was one before. What a statement declares does not depend on its errors: its rules go on.
func (x *examiner) note(err api.Errno) {
	if x.first == api.OK {
		x.first = err
	}
}

// declare declares a local variable, if it is not declared yet, and can be; it returns why the name cannot have this type.
func (x *examiner) declare(name string, typ int) api.Errno {
	known, isLocal := x.locals[name]
	switch {
	case x.kindOf(name) != 0:
		return api.ErrExists
	case isLocal && known != typ:
		return api.ErrType
	case !isLocal && len(x.locals) >= maxLocals:
		return api.ErrLimit
	}
	x.locals[name] = typ
	return api.OK
}

// declareAll declares the names behind as.
func (x *examiner) declareAll(names []string, types []int) {
	for i, name := range names {
		err := x.declare(name, types[i])
		if i == 0 && slices.Contains(names[1:], name) && (err == api.OK || err == api.ErrLimit) {
			err = api.ErrConflict
		}
		x.note(err)
	}
}

// typeOf returns the type of an expression, if it has one.
func (x *examiner) typeOf(e api.Expr) (int, api.Errno) {
	types := maps.Clone(x.locals)
	for name := range x.decls {
		if isVariable(x.kindOf(name)) {
			types[name] = api.IntType
		}
	}
	return expr.Type(e, bindingsOf(types))
}

// require notes why an expression does not have a type.
func (x *examiner) require(e api.Expr, typ int) {
	actual, err := x.typeOf(e)
	x.note(err)
	if actual != typ {
		x.note(api.ErrType)
	}
}

func bindingsOf(types map[string]int) []api.Binding {
	var l []api.Binding
	for _, name := range slices.Sorted(maps.Keys(types)) {
		l = append(l, api.Binding{Name: name, Type: types[name]})
	}
	return l
}
