package expr

import (
	"slices"

	"nursery/api"
)

const maxBindings = 64

// areValid reports whether l is a valid list of bindings.
func areValid(l []api.Binding) bool {
	if len(l) > maxBindings {
		return false
	}
	for i, b := range l {
		if !isBinding(b) || i > 0 && b.Name <= l[i-1].Name {
			return false
		}
	}
	return true
}

func isBinding(b api.Binding) bool {
	if !isName(b.Name) {
		return false
	}
	switch b.Type {
	case api.IntType:
		return b.Value >= -api.MaxInt && b.Value <= api.MaxInt
	case api.BoolType:
		return b.Value == 0 || b.Value == 1
	}
	return false
}

// evaluator finds what expressions mean with valid bindings.
type evaluator struct {
	operators map[int]operator
	bindings  []api.Binding
}

func evaluatorFor(l []api.Binding) evaluator {
	return evaluator{operators(), l}
}

// typeOf returns the type of a valid expression.
func (v evaluator) typeOf(e api.Expr) (int, api.Errno) {
	return v.combine(e, func(b api.Binding) int { return b.Type }, operator.typeFor)
}

// valueOf returns the value of an expression that has a type.
func (v evaluator) valueOf(e api.Expr) (int, api.Errno) {
	return v.combine(e, func(b api.Binding) int { return b.Value }, operator.valueFor)
}

// combine returns what ofLeaf yields for a number or a name, and what ofOperator yields for an operator and the results for its arguments; or the error of the first part that has one, where each part comes after its Args.
func (v evaluator) combine(e api.Expr, ofLeaf func(api.Binding) int, ofOperator func(operator, []int) (int, api.Errno)) (int, api.Errno) {
	if len(e.Args) == 0 {
		b, err := v.leaf(e)
		if err != api.OK {
			return 0, err
		}
		return ofLeaf(b), api.OK
	}
	var args []int
	for _, arg := range e.Args {
		x, err := v.combine(arg, ofLeaf, ofOperator)
		if err != api.OK {
			return 0, err
		}
		args = append(args, x)
	}
	return ofOperator(v.operators[e.Op], args)
}

// leaf returns the binding of a name, or the one that a number would have if it were a name.
func (v evaluator) leaf(e api.Expr) (api.Binding, api.Errno) {
	if e.Kind == api.NumberExpr {
		return api.Binding{Type: api.IntType, Value: e.Value}, api.OK
	}
	i := slices.IndexFunc(v.bindings, func(b api.Binding) bool { return b.Name == e.Name })
	if i < 0 {
		return api.Binding{}, api.ErrNotFound
	}
	return v.bindings[i], api.OK
}

// constant returns the number, or the negative of a number, that is the value of a valid expression, if it is an integer. The evaluator has no bindings: no expression with names has a type.
func (v evaluator) constant(e api.Expr) (api.Expr, bool) {
	if t, err := v.typeOf(e); err != api.OK || t != api.IntType {
		return api.Expr{}, false
	}
	value, err := v.valueOf(e)
	if err != api.OK {
		return api.Expr{}, false
	}
	number := api.Expr{Kind: api.NumberExpr, Value: magnitude(value)}
	if value < 0 {
		return api.Expr{Kind: api.UnaryExpr, Op: api.NegOp, Args: []api.Expr{number}}, true
	}
	return number, true
}
