package lexer

import (
	"strconv"

	"nursery/api"
	"nursery/expr"
)

// Precedences of expressions. An operand has a greater one than all of them.
const (
	orPrecedence         = 1
	andPrecedence        = 2
	comparisonPrecedence = 3
	sumPrecedence        = 4
	productPrecedence    = 5
)

// operator is an operator with two arguments.
type operator struct{ op, precedence int }

// operators returns the operators with two arguments by their signs.
func operators() map[string]operator {
	return map[string]operator{
		"||": {api.OrOp, orPrecedence},
		"&&": {api.AndOp, andPrecedence},
		"==": {api.EqualOp, comparisonPrecedence},
		"!=": {api.UnequalOp, comparisonPrecedence},
		"<":  {api.LessOp, comparisonPrecedence},
		"<=": {api.LessEqualOp, comparisonPrecedence},
		">":  {api.GreaterOp, comparisonPrecedence},
		">=": {api.GreaterEqOp, comparisonPrecedence},
		"+":  {api.PlusOp, sumPrecedence},
		"-":  {api.MinusOp, sumPrecedence},
		"*":  {api.TimesOp, productPrecedence},
		"/":  {api.DivideOp, productPrecedence},
		"%":  {api.ModuloOp, productPrecedence},
	}
}

// reader reads an expression from tokens.
type reader struct {
	tokens    []api.Token
	next      int // the index of the first token that was not read
	operators map[string]operator
}

// unexpected is the index of a token that cannot follow those before it. The reader gives up by a panic with it, because it may be deep inside of parentheses.
type unexpected int

// read returns the expression at the beginning of tokens, which may be too large or too deep, and how many tokens it has; or the index of the token that cannot follow those before it.
func read(l []api.Token) (e api.Expr, n int, err api.Errno) {
	defer func() {
		if reason := recover(); reason != nil {
			e, n, err = api.Expr{}, int(reason.(unexpected)), api.ErrSyntax
		}
	}()
	r := &reader{tokens: l, operators: operators()}
	e = r.expression(orPrecedence)
	return e, r.next, api.OK
}

func (r *reader) giveUp() {
	panic(unexpected(r.next))
}

// sign returns the sign that comes next, or an empty string if none does.
func (r *reader) sign() string {
	if r.next < len(r.tokens) && r.tokens[r.next].Kind == api.SignToken {
		return r.tokens[r.next].Text
	}
	return ""
}

// expression reads an expression of a precedence.
func (r *reader) expression(precedence int) api.Expr {
	if precedence > productPrecedence {
		return r.operand()
	}
	e := r.expression(precedence + 1)
	for {
		next, found := r.operators[r.sign()]
		if !found || next.precedence != precedence {
			return e
		}
		r.next++
		e = api.Expr{Kind: api.BinaryExpr, Op: next.op, Args: []api.Expr{e, r.expression(precedence + 1)}}
		// Comparisons are not grouped: no other one can follow.
		if precedence == comparisonPrecedence {
			return e
		}
	}
}

func (r *reader) operand() api.Expr {
	switch r.sign() {
	case "-":
		return r.unary(api.NegOp)
	case "!":
		return r.unary(api.NotOp)
	case "(":
		return r.inParentheses()
	}
	return r.leaf()
}

// unary reads a sign for an operator, and its argument.
func (r *reader) unary(op int) api.Expr {
	r.next++
	return api.Expr{Kind: api.UnaryExpr, Op: op, Args: []api.Expr{r.operand()}}
}

func (r *reader) inParentheses() api.Expr {
	r.next++
	e := r.expression(orPrecedence)
	if r.sign() != ")" {
		r.giveUp()
	}
	r.next++
	return e
}

// leaf reads a number or a name.
func (r *reader) leaf() api.Expr {
	if r.next == len(r.tokens) {
		r.giveUp()
	}
	e, found := leafOf(r.tokens[r.next])
	if !found {
		r.giveUp()
	}
	r.next++
	return e
}

// leafOf returns the number or the name that a token is, if it can be an operand.
func leafOf(t api.Token) (api.Expr, bool) {
	switch t.Kind {
	case api.NumberToken:
		return checked(api.Expr{Kind: api.NumberExpr, Value: t.Value}, t.Text == strconv.Itoa(t.Value))
	case api.NameToken:
		return checked(api.Expr{Kind: api.NameExpr, Name: t.Text}, !Keyword(t.Text))
	}
	return api.Expr{}, false
}

// checked returns an expression if it is allowed and valid.
func checked(e api.Expr, allowed bool) (api.Expr, bool) {
	if !allowed || expr.Check(e) != api.OK {
		return api.Expr{}, false
	}
	return e, true
}
