package lexer_test

import (
	"math/big"
	"regexp"
	"slices"
	"strings"

	"nursery/api"
)

const (
	least    = -1 << 63
	greatest = 1<<63 - 1
	maxInt   = 1 << 40
	maxText  = 4000
)

// reserved are the reserved names, as the chapter lists them.
var reserved = strings.Split("acquire, add, any, arrive, as, assert, atomic, await, barrier, begin, broadcast, budget, call, cancel, channel, checkpoint, cleanup, close, complete, cond, deadline, default, defer, else, emit, end, every, fail, func, future, if, let, limiter, lock, mask, mutex, next, on, priority, publish, readlock, readunlock, receive, release, repeat, return, rwlock, scope, select, semaphore, send, signal, sleep, spawn, subscribe, swap, take, task, topic, tryacquire, trylock, unlock, unsubscribe, var, wait, while, writelock, writeunlock, yield", ", ")

// signs are the signs, as the chapter lists them.
var signs = strings.Fields("&& || == != <= >= < > + - * / % ! = ( ) { } , ;")

// operator is what the chapter says of an operator with two arguments.
type operator struct {
	sign           string
	op, precedence int
}

var operators = []operator{
	{"+", 3, 4}, {"-", 4, 4}, {"*", 5, 5}, {"/", 6, 5}, {"%", 7, 5},
	{"==", 8, 3}, {"!=", 9, 3}, {"<", 10, 3}, {"<=", 11, 3}, {">", 12, 3}, {">=", 13, 3},
	{"&&", 14, 2}, {"||", 15, 1},
}

// operatorOf returns the operator with a sign, or one with the precedence 0.
func operatorOf(sign string) operator {
	for _, o := range operators {
		if o.sign == sign {
			return o
		}
	}
	return operator{}
}

var (
	blanks    = regexp.MustCompile(`^(?:[ \t\n]|#[^\n]*)*`)
	words     = regexp.MustCompile(`^(?:[a-z][a-z0-9_]*|[0-9][a-z0-9_]*|&&|\|\||[=!<>]=|[-<>+*/%!=(){},;])`)
	allDigits = regexp.MustCompile(`^(?:0|[1-9][0-9]*)$`)
	aName     = regexp.MustCompile(`^[a-z][a-z0-9_]{0,29}$`)
)

// expectedTokens returns what Tokens returns: patterns are matched with what is left of the text.
func expectedTokens(s string) ([]api.Token, int, api.Errno) {
	if len(s) > maxText {
		return nil, 0, api.ErrLimit
	}
	var l []api.Token
	for at := 0; ; {
		at += len(blanks.FindString(s[at:]))
		if at == len(s) {
			return append(l, api.Token{At: at}), 0, api.OK
		}
		t, err := expectedToken(words.FindString(s[at:]))
		if err != api.OK {
			return nil, at, err
		}
		t.At = at
		l = append(l, t)
		at += len(t.Text)
	}
}

// expectedToken returns the token that a word is.
func expectedToken(word string) (api.Token, api.Errno) {
	switch {
	case word == "":
		return api.Token{}, api.ErrSyntax
	case word[0] >= 'a' && word[0] <= 'z':
		if !aName.MatchString(word) {
			return api.Token{}, api.ErrName
		}
		return api.Token{Kind: 1, Text: word}, api.OK
	case word[0] < '0' || word[0] > '9':
		return api.Token{Kind: 3, Text: word}, api.OK
	case !allDigits.MatchString(word):
		return api.Token{}, api.ErrSyntax
	}
	x, _ := new(big.Int).SetString(word, 10)
	if x.Cmp(big.NewInt(maxInt)) > 0 {
		return api.Token{}, api.ErrRange
	}
	return api.Token{Kind: 2, Text: word, Value: int(x.Int64())}, api.OK
}

// operandOf returns the number or the name that a token is, if it is an operand.
func operandOf(t api.Token) (api.Expr, bool) {
	switch {
	case t.Kind == 1 && aName.MatchString(t.Text) && !slices.Contains(reserved, t.Text):
		return name(t.Text), true
	case t.Kind == 2 && t.Value >= 0 && t.Value <= maxInt && t.Text == big.NewInt(int64(t.Value)).String():
		return num(t.Value), true
	}
	return api.Expr{}, false
}

// isSign reports whether the token of l with an index is one of some signs.
func isSign(l []api.Token, i int, some ...string) bool {
	return i < len(l) && l[i].Kind == 3 && slices.Contains(some, l[i].Text)
}

// open is a parenthesis that is not closed, or an operator that misses its last argument.
type open struct {
	sign       string
	op         int
	precedence int // 0 for parentheses
	left       []api.Expr
}

// machine reads an expression with a stack of what is open.
type machine struct {
	stack []open
	last  api.Expr
}

// finish gives the operators their last arguments, as long as they have at least a precedence.
func (m *machine) finish(precedence int) {
	for len(m.stack) > 0 && m.stack[len(m.stack)-1].precedence >= precedence {
		top := m.stack[len(m.stack)-1]
		m.stack = m.stack[:len(m.stack)-1]
		args := append(slices.Clone(top.left), m.last)
		m.last = api.Expr{Kind: 2 + len(args), Op: top.op, Args: args}
	}
}

// follow handles a token behind an operand, and tells whether it can follow, and whether another operand must follow it.
func (m *machine) follow(l []api.Token, i int) (can, needs bool) {
	if isSign(l, i, ")") {
		m.finish(1)
		if len(m.stack) == 0 {
			return false, false
		}
		m.stack = m.stack[:len(m.stack)-1]
		return true, false
	}
	if i == len(l) || l[i].Kind != 3 || operatorOf(l[i].Text).op == 0 {
		return false, false
	}
	o := operatorOf(l[i].Text)
	if o.precedence != 3 {
		m.finish(o.precedence)
	} else if m.finish(4); len(m.stack) > 0 && m.stack[len(m.stack)-1].precedence == 3 {
		return false, false
	}
	m.stack = append(m.stack, open{o.sign, o.op, o.precedence, []api.Expr{m.last}})
	return true, true
}

// expectedRead returns the expression at the beginning of tokens, however large it is, and how many tokens it has; or the index of the token that cannot follow.
func expectedRead(l []api.Token) (api.Expr, int, bool) {
	m := &machine{}
	needs := true
	for i := 0; ; i++ {
		if needs {
			switch {
			case isSign(l, i, "("):
				m.stack = append(m.stack, open{sign: "("})
				continue
			case isSign(l, i, "-", "!"):
				m.stack = append(m.stack, open{l[i].Text, 1 + strings.Index("-!", l[i].Text), 6, nil})
				continue
			case i == len(l):
				return api.Expr{}, i, false
			}
			e, ok := operandOf(l[i])
			if !ok {
				return api.Expr{}, i, false
			}
			m.last, needs = e, false
			continue
		}
		can, more := m.follow(l, i)
		if !can {
			m.finish(1)
			if len(m.stack) > 0 {
				return api.Expr{}, i, false
			}
			return m.last, i, true
		}
		needs = more
	}
}

// expectedCheck returns what layer 9's Check returns for an expression that was read.
func expectedCheck(e api.Expr) api.Errno {
	type part struct {
		e     api.Expr
		depth int
	}
	stack := []part{{e, 1}}
	n, deepest := 0, 0
	for len(stack) > 0 {
		top := stack[len(stack)-1]
		stack = stack[:len(stack)-1]
		n++
		deepest = max(deepest, top.depth)
		for _, arg := range top.e.Args {
			stack = append(stack, part{arg, top.depth + 1})
		}
	}
	switch {
	case n > 100:
		return api.ErrLimit
	case deepest > 12:
		return api.ErrDepth
	}
	return api.OK
}

// expectedExpr returns what Expr returns.
func expectedExpr(l []api.Token) (api.Expr, int, api.Errno) {
	if len(l) > maxText+1 {
		return api.Expr{}, 0, api.ErrLimit
	}
	e, n, ok := expectedRead(l)
	if !ok {
		return api.Expr{}, n, api.ErrSyntax
	}
	if err := expectedCheck(e); err != api.OK {
		return api.Expr{}, 0, err
	}
	return e, n, api.OK
}

// expectedParse returns what Parse returns.
func expectedParse(s string) (api.Expr, int, api.Errno) {
	l, at, err := expectedTokens(s)
	if err != api.OK {
		return api.Expr{}, at, err
	}
	e, n, ok := expectedRead(l)
	if !ok || n < len(l)-1 {
		return api.Expr{}, l[n].At, api.ErrSyntax
	}
	if err := expectedCheck(e); err != api.OK {
		return api.Expr{}, 0, err
	}
	return e, 0, api.OK
}

// grammar finds expressions by the definition of precedences, which are those of parts of a list of tokens. It is slow.
type grammar struct {
	tokens []api.Token
	known  map[[3]int][]api.Expr
}

// readings returns the expressions of a precedence that the tokens from i to j - 1 are.
func (g grammar) readings(i, j, precedence int) []api.Expr {
	key := [3]int{i, j, precedence}
	if l, found := g.known[key]; found || i >= j {
		return l
	}
	l := g.operands(i, j)
	if precedence < 6 {
		l = slices.Clone(g.readings(i, j, precedence+1))
		left := precedence
		if precedence == 3 {
			left = 4
		}
		for k := i + 1; k < j; k++ {
			o := operatorOf(g.tokens[k].Text)
			if g.tokens[k].Kind != 3 || o.precedence != precedence {
				continue
			}
			for _, a := range g.readings(i, k, left) {
				for _, b := range g.readings(k+1, j, precedence+1) {
					l = append(l, bin(o.op, a, b))
				}
			}
		}
	}
	g.known[key] = l
	return l
}

// operands returns the operands that the tokens from i to j - 1 are.
func (g grammar) operands(i, j int) []api.Expr {
	if e, ok := operandOf(g.tokens[i]); ok && j == i+1 {
		return []api.Expr{e}
	}
	var l []api.Expr
	switch {
	case isSign(g.tokens, i, "-"):
		for _, e := range g.readings(i+1, j, 6) {
			l = append(l, un(1, e))
		}
	case isSign(g.tokens, i, "!"):
		for _, e := range g.readings(i+1, j, 6) {
			l = append(l, un(2, e))
		}
	case isSign(g.tokens, i, "(") && isSign(g.tokens, j-1, ")"):
		l = g.readings(i+1, j-1, 1)
	}
	return l
}

// all returns the expressions that a list of tokens is.
func all(l []api.Token) []api.Expr {
	return grammar{l, map[[3]int][]api.Expr{}}.readings(0, len(l), 1)
}

// isBeginning reports whether some expression begins with the tokens l: nothing, or an operand, and then closing parentheses make it one.
func isBeginning(l []api.Token) bool {
	for _, more := range [][]api.Token{nil, {{Kind: 1, Text: "x"}}} {
		l := slices.Concat(l, more)
		for range 1 + len(l) {
			if len(all(l)) > 0 {
				return true
			}
			l = append(l, api.Token{Kind: 3, Text: ")"})
		}
	}
	return false
}

// definedRead returns what expectedRead returns, by the definition: reading goes on as long as an expression begins with what was read. It fails if there are several expressions.
func definedRead(l []api.Token) (api.Expr, int, bool) {
	n := 0
	for n < len(l) && isBeginning(l[:n+1]) {
		n++
	}
	readings := all(l[:n])
	if len(readings) != 1 {
		return api.Expr{}, n, false
	}
	return readings[0], n, true
}
