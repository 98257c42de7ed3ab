package syntax_test

import (
	"slices"
	"strings"

	"nursery/api"
	"nursery/lexer"
)

// randoms returns a function that returns the next number of a fixed sequence, from 0 to n - 1.
func randoms(seed int) func(n int) int {
	x := uint64(seed)
	return func(n int) int {
		x = x*6364136223846793005 + 1442695040888963407
		return int(x >> 20 % uint64(n))
	}
}

func num(value int) api.Expr {
	return api.Expr{Kind: api.NumberExpr, Value: value}
}

func name(s string) api.Expr {
	return api.Expr{Kind: api.NameExpr, Name: s}
}

func un(op int, arg api.Expr) api.Expr {
	return api.Expr{Kind: api.UnaryExpr, Op: op, Args: []api.Expr{arg}}
}

func bin(op int, a, b api.Expr) api.Expr {
	return api.Expr{Kind: api.BinaryExpr, Op: op, Args: []api.Expr{a, b}}
}

// sum returns an expression with n parts, an odd number, and a depth of about log n.
func sum(n int) api.Expr {
	if n == 1 {
		return num(7)
	}
	left := (n - 1) / 2
	left -= 1 - left%2
	return bin(api.PlusOp, sum(left), sum(n-1-left))
}

// negatives returns an expression of a depth, with as many parts.
func negatives(depth int) api.Expr {
	e := name("x")
	for range depth - 1 {
		e = un(api.NegOp, e)
	}
	return e
}

func emit(e api.Expr) api.Stmt {
	return api.Stmt{Kind: api.EmitStmt, Exprs: []api.Expr{e}}
}

func yield() api.Stmt {
	return api.Stmt{Kind: api.YieldStmt}
}

func yields(n int) []api.Stmt {
	return slices.Repeat([]api.Stmt{yield()}, n)
}

func mask(body ...api.Stmt) api.Stmt {
	return api.Stmt{Kind: api.MaskStmt, Body: body}
}

func task(body ...api.Stmt) api.Proc {
	return api.Proc{Kind: api.TaskProc, Name: "f", Body: body}
}

// with returns the source that has only a task with these statements.
func with(body ...api.Stmt) api.Source {
	return api.Source{Procs: []api.Proc{task(body...)}}
}

func choose(cases ...api.Case) api.Stmt {
	return api.Stmt{Kind: api.SelectStmt, Cases: cases}
}

func sends(e api.Expr, body ...api.Stmt) api.Case {
	return api.Case{Kind: api.SendCase, Name: "c", Expr: e, Body: body}
}

func receives(a, b string, body ...api.Stmt) api.Case {
	return api.Case{Kind: api.ReceiveCase, Name: "c", Names: []string{a, b}, Body: body}
}

func otherwise(body ...api.Stmt) api.Case {
	return api.Case{Kind: api.DefaultCase, Body: body}
}

// nested returns a statement of a depth: in each one the next one stands in another place.
func nested(depth, place int) api.Stmt {
	if depth == 1 {
		return yield()
	}
	inner := nested(depth-1, place+1)
	switch place % 6 {
	case 0:
		return mask(inner)
	case 1:
		return api.Stmt{Kind: api.IfStmt, Exprs: []api.Expr{name("a")}, Else: []api.Stmt{inner}}
	case 2:
		return choose(otherwise(inner))
	case 3:
		return choose(otherwise(), sends(num(1)), receives("a", "b", yield(), inner))
	case 4:
		return api.Stmt{Kind: api.ScopeStmt, Exprs: []api.Expr{{}, {}}, Body: []api.Stmt{yield(), inner}}
	}
	return api.Stmt{Kind: api.IfStmt, Exprs: []api.Expr{name("a")}, Body: []api.Stmt{inner}, Else: yields(1)}
}

// longName has as many bytes as a name may have.
var longName = "z" + strings.Repeat("_9a", 9) + "bz"

// names are names that are not reserved, many of them nearly.
var names = []string{"a", "b", "x", "z", "a0", "z_", "abc_1_2", longName, "iff", "if_", "lets", "le", "yields", "elses", "tasks", "main", "op", "object", "send_", "priority1", "r_"}

// noNames are no names, or reserved.
var noNames = []string{"", "X", "_a", "1", "1a", "aB", "a b", " a", "a\n", "é", "a\xff", "-", "(", longName + "a", "if", "yield", "acquire", "any", "as", "default", "on", "every", "priority", "deadline"}

// randomExpr returns a valid expression of at most a depth.
func randomExpr(next func(int) int, depth int) api.Expr {
	if depth == 1 || next(2) == 0 {
		if next(2) == 0 {
			return name(names[next(len(names))])
		}
		return num([]int{0, 1, 2, 9, 10, 1 << 40}[next(6)])
	}
	if next(4) == 0 {
		return un(1+next(2), randomExpr(next, depth-1))
	}
	return bin(3+next(13), randomExpr(next, depth-1), randomExpr(next, depth-1))
}

// randomList returns a list of at least least and at most most elements.
func randomList[T any](next func(int) int, least, most int, element func() T) []T {
	var l []T
	for range least + next(most-least+1) {
		l = append(l, element())
	}
	return l
}

// maker makes random valid trees, unless they become too large.
type maker struct {
	next func(int) int
}

func (m maker) name() string {
	return names[m.next(len(names))]
}

func (m maker) expr() api.Expr {
	return randomExpr(m.next, 1+m.next(4))
}

// perhaps returns an expression, or the zero expression.
func (m maker) perhaps() api.Expr {
	if m.next(2) == 0 {
		return api.Expr{}
	}
	return m.expr()
}

// body returns statements, of which a depth is left.
func (m maker) body(depth int) []api.Stmt {
	if depth == 0 {
		return nil
	}
	return randomList(m.next, 0, 3, func() api.Stmt { return m.stmt(1+m.next(24), depth) })
}

func (m maker) stmt(kind, depth int) api.Stmt {
	row := rowOf(kind)
	s := api.Stmt{Kind: kind}
	if kind == api.ObjectStmt {
		o := objectRows[m.next(len(objectRows))]
		s.Op = o.op
		row.names, row.exprs = [2]int{o.names, o.names}, [2]int{o.exprs, o.exprs}
	}
	if row.name == "a name" || row.name != "" && m.next(2) == 0 {
		s.Name = m.name()
	}
	s.Names = randomList(m.next, row.names[0], row.names[1], m.name)
	s.Exprs = randomList(m.next, row.exprs[0], row.exprs[1], m.expr)
	if kind == api.ScopeStmt {
		s.Exprs = []api.Expr{m.perhaps(), m.perhaps()}
	}
	if kind == api.BeginStmt {
		s.Exprs[0] = num(m.next(200))
	}
	if strings.Contains(row.others, "Body") {
		s.Body = m.body(depth - 1)
	}
	if strings.Contains(row.others, "Else") {
		s.Else = m.body(depth - 1)
	}
	if strings.Contains(row.others, "Cases") {
		s.Cases = m.cases(depth - 1)
	}
	return s
}

func (m maker) cases(depth int) []api.Case {
	hasDefault := false
	return randomList(m.next, 1, 6, func() api.Case {
		c := api.Case{Kind: 1 + m.next(3), Body: m.body(depth)}
		if c.Kind == api.DefaultCase && hasDefault {
			c.Kind = api.ReceiveCase
		}
		switch c.Kind {
		case api.SendCase:
			c.Name, c.Expr = m.name(), m.expr()
		case api.ReceiveCase:
			c.Name, c.Names = m.name(), []string{m.name(), m.name()}
		}
		hasDefault = hasDefault || c.Kind == api.DefaultCase
		return c
	})
}

func (m maker) decl() api.Decl {
	row := declRows[m.next(len(declRows))]
	d := api.Decl{Kind: row.kind, Name: m.name()}
	number := []int{0, 1, 7, 100, 101, 1 << 40}[m.next(6)]
	switch {
	case strings.Contains(row.has, "-A") && m.next(2) == 0:
		d.A = -number
	case strings.Contains(row.has, "A"):
		d.A = number
	}
	switch {
	case strings.Contains(row.has, "B1"):
		d.B = m.next(2)
	case strings.Contains(row.has, "B"):
		d.B = []int{0, 1, 2, 1 << 40}[m.next(4)]
	}
	if strings.Contains(row.has, "Name2") {
		d.Name2 = m.name()
	}
	return d
}

func (m maker) proc(depth int) api.Proc {
	p := api.Proc{Kind: 1 + m.next(3), Name: m.name(), Params: randomList(m.next, 0, m.next(9), m.name), Body: m.body(depth)}
	if p.Kind == api.TaskProc && m.next(2) == 0 {
		p.Priority = m.next(10)
	}
	return p
}

// source returns a valid source.
func (m maker) source() api.Source {
	for {
		depth := m.next(13)
		src := api.Source{
			Decls: randomList(m.next, 0, []int{0, 1, 4, 32}[m.next(4)], m.decl),
			Procs: randomList(m.next, 0, []int{1, 3, 32}[m.next(3)], func() api.Proc { return m.proc(depth) }),
		}
		if expectedCheck(src) == api.OK {
			return src
		}
	}
}

// sources returns n random valid sources.
func sources(seed, n int) []api.Source {
	m := maker{randoms(seed)}
	var l []api.Source
	for range n {
		l = append(l, m.source())
	}
	return l
}

// gaps are what can stand between tokens.
var gaps = []string{"", " ", "\t", "\n", "  ", " \t\n ", "#\n", "##\n", "# a comment\n", "\n# 1a 00 & | é \xff \r \x00 $ \" A #\n", " #x+1;\n\t#}\n "}

func isWordByte(c byte) bool {
	return strings.IndexByte("abcdefghijklmnopqrstuvwxyz0123456789_", c) >= 0
}

// areGlued reports whether two tokens are not those two without something between them.
func areGlued(a, b string) bool {
	return isWordByte(a[len(a)-1]) && isWordByte(b[0]) || b[0] == '=' && len(a) == 1 && strings.Contains("=!<>", a)
}

// laidOut returns a text with some tokens and gaps between them.
func laidOut(next func(int) int, texts []string) string {
	var s strings.Builder
	for i, text := range texts {
		gap := gaps[next(2)]
		if next(4) == 0 {
			gap = gaps[next(len(gaps))]
		}
		if i > 0 && gap == "" && areGlued(texts[i-1], text) {
			gap = gaps[1+next(len(gaps)-1)]
		}
		s.WriteString(gap + text)
	}
	s.WriteString(gaps[next(len(gaps))])
	return s.String()
}

// textsOf returns the texts of the tokens of s, without that of the end; none if it has an error.
func textsOf(s string) []string {
	l, _, _ := lexer.Tokens(s)
	var texts []string
	for _, t := range l[:max(0, len(l)-1)] {
		texts = append(texts, t.Text)
	}
	return texts
}

// parenthesized returns a text of an expression in which some parts are in parentheses, at least those that need them.
func parenthesized(next func(int) int, e api.Expr) string {
	text := exprText(e)
	switch {
	case e.Kind == api.UnaryExpr && next(4) > 0:
		text = []string{"-", "!"}[e.Op-1] + "(" + parenthesized(next, e.Args[0]) + ")"
	case e.Kind == api.BinaryExpr && next(4) > 0:
		text = "(" + parenthesized(next, e.Args[0]) + ")" + signs[e.Op-3] + "(" + parenthesized(next, e.Args[1]) + ")"
	}
	n := next(2) * next(4)
	return strings.Repeat("(", n) + text + strings.Repeat(")", n)
}

// loose returns the texts of the tokens of a valid source, with more of them than needed.
func loose(next func(int) int, src api.Source) []string {
	w := wording{
		expr:  func(e api.Expr) string { return parenthesized(next, e) },
		extra: func() bool { return next(2) == 0 },
	}
	var texts []string
	for _, l := range w.source(src) {
		for _, token := range l.tokens {
			texts = append(texts, textsOf(token)...)
		}
	}
	return texts
}
