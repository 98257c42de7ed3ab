package expr

import "nursery/api"

// Precedences of expressions.
const (
	orPrecedence         = 1
	andPrecedence        = 2
	comparisonPrecedence = 3
	sumPrecedence        = 4
	productPrecedence    = 5
	unaryPrecedence      = 6
	leafPrecedence       = 7 // numbers and names
)

// operator is what an operator means.
type operator struct {
	sign       string
	precedence int
	takes      int // the type of its arguments; 0 if they can have any type, but all the same one
	gives      int // the type of its value
	// apply returns its value, or why there is none.
	apply func(args []int) (int, api.Errno)
}

// operators returns the operators by their numbers.
func operators() map[int]operator {
	return map[int]operator{
		api.NegOp:       {"-", unaryPrecedence, api.IntType, api.IntType, func(args []int) (int, api.Errno) { return -args[0], api.OK }},
		api.NotOp:       {"!", unaryPrecedence, api.BoolType, api.BoolType, func(args []int) (int, api.Errno) { return 1 - args[0], api.OK }},
		api.PlusOp:      arithmetic("+", sumPrecedence, func(a, b int) (int, api.Errno) { return bounded(a + b) }),
		api.MinusOp:     arithmetic("-", sumPrecedence, func(a, b int) (int, api.Errno) { return bounded(a - b) }),
		api.TimesOp:     arithmetic("*", productPrecedence, product),
		api.DivideOp:    arithmetic("/", productPrecedence, divided(func(a, b int) int { return a / b })),
		api.ModuloOp:    arithmetic("%", productPrecedence, divided(func(a, b int) int { return a % b })),
		api.EqualOp:     truth("==", comparisonPrecedence, 0, func(a, b int) bool { return a == b }),
		api.UnequalOp:   truth("!=", comparisonPrecedence, 0, func(a, b int) bool { return a != b }),
		api.LessOp:      truth("<", comparisonPrecedence, api.IntType, func(a, b int) bool { return a < b }),
		api.LessEqualOp: truth("<=", comparisonPrecedence, api.IntType, func(a, b int) bool { return a <= b }),
		api.GreaterOp:   truth(">", comparisonPrecedence, api.IntType, func(a, b int) bool { return a > b }),
		api.GreaterEqOp: truth(">=", comparisonPrecedence, api.IntType, func(a, b int) bool { return a >= b }),
		api.AndOp:       truth("&&", andPrecedence, api.BoolType, func(a, b int) bool { return a == 1 && b == 1 }),
		api.OrOp:        truth("||", orPrecedence, api.BoolType, func(a, b int) bool { return a == 1 || b == 1 }),
	}
}

// arithmetic returns the operator that computes an integer from two integers.
func arithmetic(sign string, precedence int, compute func(a, b int) (int, api.Errno)) operator {
	return operator{sign, precedence, api.IntType, api.IntType, func(args []int) (int, api.Errno) {
		return compute(args[0], args[1])
	}}
}

// truth returns the operator that tells whether something holds for two arguments.
func truth(sign string, precedence, takes int, holds func(a, b int) bool) operator {
	return operator{sign, precedence, takes, api.BoolType, func(args []int) (int, api.Errno) {
		if holds(args[0], args[1]) {
			return 1, api.OK
		}
		return 0, api.OK
	}}
}

// bounded returns a value that may be out of range.
func bounded(value int) (int, api.Errno) {
	if magnitude(value) > api.MaxInt {
		return 0, api.ErrOverflow
	}
	return value, api.OK
}

// product looks at its factors before it multiplies them, because what they make may be too great for an int.
func product(a, b int) (int, api.Errno) {
	if a != 0 && magnitude(b) > api.MaxInt/magnitude(a) {
		return 0, api.ErrOverflow
	}
	return a * b, api.OK
}

// divided returns the function that computes something for a divisor that is not 0.
func divided(compute func(a, b int) int) func(a, b int) (int, api.Errno) {
	return func(a, b int) (int, api.Errno) {
		if b == 0 {
			return 0, api.ErrDivide
		}
		return compute(a, b), api.OK
	}
}

func magnitude(x int) int {
	return max(x, -x)
}

// typeFor returns the type of an operation whose arguments have some types.
func (o operator) typeFor(types []int) (int, api.Errno) {
	for _, t := range types {
		if t != types[0] || o.takes != 0 && t != o.takes {
			return 0, api.ErrType
		}
	}
	return o.gives, api.OK
}

// valueFor returns the value of an operation whose arguments have some values.
func (o operator) valueFor(args []int) (int, api.Errno) {
	return o.apply(args)
}
