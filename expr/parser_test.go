package expr_test

import (
	"regexp"
	"slices"
	"strconv"

	"nursery/api"
)

var tokens = regexp.MustCompile(`[a-z][a-z0-9_]*|[0-9]+|&&|\|\||[=!<>]=|\S`)

// reader reads an expression from tokens, by the grammar of texts.
type reader struct {
	tokens []string
	failed bool
}

// parse returns the expression with a text, if there is one.
func parse(text string) (api.Expr, bool) {
	r := &reader{tokens: tokens.FindAllString(text, -1)}
	e := r.level(1)
	return e, !r.failed && len(r.tokens) == 0
}

func (r *reader) next() string {
	if len(r.tokens) == 0 {
		r.failed = true
		return ""
	}
	first := r.tokens[0]
	r.tokens = r.tokens[1:]
	return first
}

// level reads an expression whose operators outside of parentheses have at least a precedence.
func (r *reader) level(precedence int) api.Expr {
	if precedence == 6 {
		return r.operand()
	}
	e := r.level(precedence + 1)
	for {
		op := r.binary(precedence)
		if op < 0 {
			return e
		}
		r.next()
		e = bin(op, e, r.level(precedence+1))
		if precedence == 3 {
			return e
		}
	}
}

// binary returns the operator with a precedence that comes next, or -1.
func (r *reader) binary(precedence int) int {
	if len(r.tokens) == 0 {
		return -1
	}
	return slices.IndexFunc(operators, func(o operator) bool { return o.sign == r.tokens[0] && o.precedence == precedence })
}

func (r *reader) operand() api.Expr {
	first := r.next()
	switch first {
	case "":
		return api.Expr{}
	case "-":
		return un(api.NegOp, r.operand())
	case "!":
		return un(api.NotOp, r.operand())
	case "(":
		e := r.level(1)
		if r.next() != ")" {
			r.failed = true
		}
		return e
	}
	if x, err := strconv.Atoi(first); err == nil {
		return num(x)
	}
	if !expectedName(first) {
		r.failed = true
	}
	return name(first)
}
