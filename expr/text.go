package expr

import (
	"strconv"

	"nursery/api"
)

// printer writes valid expressions.
type printer struct{ operators map[int]operator }

func (p printer) text(e api.Expr) string {
	sign := p.operators[e.Op].sign
	switch e.Kind {
	case api.NumberExpr:
		return strconv.Itoa(e.Value)
	case api.NameExpr:
		return e.Name
	case api.UnaryExpr:
		return sign + p.argument(e, 0)
	}
	return p.argument(e, 0) + " " + sign + " " + p.argument(e, 1)
}

// argument returns the text of the argument of e with an index, in parentheses if it needs them.
func (p printer) argument(e api.Expr, i int) string {
	text := p.text(e.Args[i])
	inside, outside := p.precedence(e.Args[i]), p.precedence(e)
	// Operators are grouped from the left, but comparisons not at all.
	if inside < outside || inside == outside && (i == 1 || outside == comparisonPrecedence) {
		return "(" + text + ")"
	}
	return text
}

func (p printer) precedence(e api.Expr) int {
	if o, found := p.operators[e.Op]; found {
		return o.precedence
	}
	return leafPrecedence
}
