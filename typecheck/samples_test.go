package typecheck_test

import (
	"slices"
	"strings"

	"nursery/api"
	"nursery/syntax"
)

// randoms returns a function that returns the next number of a fixed sequence, from 0 to n - 1.
func randoms(seed int) func(n int) int {
	x := uint64(seed)
	return func(n int) int {
		x = x*6364136223846793005 + 1442695040888963407
		return int(x >> 20 % uint64(n))
	}
}

func num(value int) api.Expr {
	return api.Expr{Kind: api.NumberExpr, Value: value}
}

func name(s string) api.Expr {
	return api.Expr{Kind: api.NameExpr, Name: s}
}

func un(op int, arg api.Expr) api.Expr {
	return api.Expr{Kind: api.UnaryExpr, Op: op, Args: []api.Expr{arg}}
}

func bin(op int, a, b api.Expr) api.Expr {
	return api.Expr{Kind: api.BinaryExpr, Op: op, Args: []api.Expr{a, b}}
}

// Names of declarations, of procedures and of local variables are partly the same.
var (
	declNames  = strings.Fields("x y z m n c d k w s u t l p q a f x2 m2 c2 k2 w2 s2 u2 t2 l2 p2 q2 a2 f2 x3 m3 c3 k3 w3 s3 u3 t3 l3 p3 q3 a3 f3")
	procNames  = strings.Fields("main f g h a x f1 f2 f3 f4 f5 f6")
	localNames = strings.Fields("a b e f g x i j r v ok main a1 a2 a3 a4 a5 a6 a7 a8 b1 b2 b3 b4 b5 b6 b7 b8 zz z1 z2 z3")
)

// maker makes random sources, in which it keeps to the rules; but, unless rate is 0, one of so many choices is made whatever they say.
type maker struct {
	next      func(int) int
	rate      int
	names     []string // of local variables
	statement int      // how many statements a list has at most
	isLong    bool     // there are many short statements with many names
	env
	proc   api.Proc // whose statements are made
	inside bool     // a scope or a mask
}

// isWild reports whether a choice is made whatever the rules say.
func (m *maker) isWild() bool {
	return m.rate > 0 && m.next(m.rate) == 0
}

func pick[T any](m *maker, l []T) T {
	return l[m.next(len(l))]
}

// anyName returns a name that may mean anything.
func (m *maker) anyName() string {
	return pick(m, slices.Concat(declNames[:14], procNames, localNames[:14], []string{"nobody"}))
}

// declared returns the name of a declaration of one of some kinds, if there is one.
func (m *maker) declared(kinds ...int) (string, bool) {
	if m.isWild() {
		return m.anyName(), true
	}
	var l []string
	for _, d := range m.src.Decls {
		if slices.Contains(kinds, d.Kind) && m.decl(d.Name) == d.Kind || m.isWild() {
			l = append(l, d.Name)
		}
	}
	if len(l) == 0 {
		return "", false
	}
	return pick(m, l), true
}

// fresh returns a name that a local variable can get.
func (m *maker) fresh() (string, bool) {
	if m.isWild() {
		return m.anyName(), true
	}
	var l []string
	for _, s := range m.names {
		if m.decl(s) == 0 && m.local(s) == 0 {
			l = append(l, s)
		}
	}
	isFull := len(m.locals) == 20 && (m.rate == 0 || m.next(4) == 0)
	if len(l) == 0 || isFull {
		return "", false
	}
	return pick(m, l), true
}

// variables returns the names of the local and the declared variables with a type.
func (m *maker) variables(typ int) []string {
	var l []string
	for _, b := range m.locals {
		if b.Type == typ {
			l = append(l, b.Name)
		}
	}
	for _, d := range m.src.Decls {
		if d.Kind > 100 && typ == 1 && m.decl(d.Name) > 100 {
			l = append(l, d.Name)
		}
	}
	return l
}

// result returns a name for a result with a type, and declares it.
func (m *maker) result(typ int) (string, bool) {
	var known []string
	for _, b := range m.locals {
		if b.Type == typ {
			known = append(known, b.Name)
		}
	}
	if m.isWild() && len(m.locals) > 0 {
		return pick(m, m.locals).Name, true
	}
	s, isFresh := m.fresh()
	if !isFresh && len(known) == 0 {
		return "", false
	}
	if !isFresh || len(known) > 0 && m.next(3) > 0 && !m.isLong {
		s = pick(m, known)
	}
	m.declare(s, typ)
	return s, true
}

// expr returns an expression with a type, of a depth of at most depth.
func (m *maker) expr(typ, depth int) api.Expr {
	if m.isWild() {
		typ = 3 - typ
	}
	if m.isWild() {
		return name(m.anyName())
	}
	l := m.variables(typ)
	switch {
	case len(l) > 0 && (depth == 1 || m.next(2) == 0):
		return name(pick(m, l))
	case typ == 1 && (depth == 1 || m.next(2) == 0):
		return num([]int{0, 1, 2, 99, 100, 1 << 40}[m.next(6)])
	case depth == 1:
		return bin(api.LessOp+m.next(4), num(m.next(9)), num(m.next(9)))
	case typ == 1 && m.next(5) == 0:
		return un(api.NegOp, m.expr(1, depth-1))
	case typ == 1:
		return bin(api.PlusOp+m.next(5), m.expr(1, depth-1), m.expr(1, depth-1))
	case m.next(5) == 0:
		return un(api.NotOp, m.expr(2, depth-1))
	case m.next(3) == 0:
		typ = 1 + m.next(2)
		return bin(api.EqualOp+m.next(2), m.expr(typ, depth-1), m.expr(typ, depth-1))
	case m.next(2) == 0:
		return bin(api.LessOp+m.next(4), m.expr(1, depth-1), m.expr(1, depth-1))
	}
	return bin(api.AndOp+m.next(2), m.expr(2, depth-1), m.expr(2, depth-1))
}

func (m *maker) short(typ int) api.Expr {
	if m.isLong {
		return m.expr(typ, 1)
	}
	return m.expr(typ, 1+m.next(3))
}

// head makes the statement of a kind without its blocks, if there can be one here.
func (m *maker) head(kind int) (api.Stmt, bool) {
	row := stmtRows[kind-1]
	isForbidden := row.where == "no clean-up" && m.proc.Kind == 3 || row.where == "return" && m.proc.Kind != 1 && m.inside
	if isForbidden && (m.rate == 0 || m.next(4) > 0) {
		return api.Stmt{}, false
	}
	s := api.Stmt{Kind: kind}
	ok := true
	count := map[int]int{20: 0, 22: 2}
	n, has := count[kind]
	if !has && row.exprs != "" {
		n = 1
	}
	typ := types[row.exprs]
	switch row.name {
	case "nothing":
		typ = 1 + m.next(2)
		s.Name, ok = m.fresh()
	case "variable":
		typ = 1 + m.next(2)
		if l := m.variables(typ); len(l) > 0 && !m.isWild() {
			s.Name = pick(m, l)
		} else {
			s.Name, ok = m.anyName(), m.isWild()
		}
	case "1", "2", "3":
		s.Name, n, ok = m.used(int(row.name[0] - '0'))
	case "object":
		o := pick(m, objectRows)
		s.Op, n, row.as = o.op, o.exprs, o.as
		s.Name, ok = m.declared(o.kind)
	case "atomic":
		s.Name, ok = m.declared(102)
	}
	if !ok {
		return s, false
	}
	for range n {
		s.Exprs = append(s.Exprs, m.short(typ))
	}
	switch kind {
	case api.LetStmt:
		m.declare(s.Name, typ)
	case api.ScopeStmt:
		m.scopeHead(&s)
	case api.BeginStmt:
		s.Exprs = []api.Expr{num(m.next(100)), m.short(1)}
		if m.isWild() {
			s.Exprs[0].Value = []int{100, 1 << 40}[m.next(2)]
		}
	case api.CallStmt:
		if m.next(2) == 0 {
			row.as = ""
		}
	case api.SelectStmt:
		return s, m.cases(&s)
	}
	s.Names, ok = m.results(row.as)
	return s, ok
}

// used returns the name of a procedure of a kind that can be used, and the number of its parameters.
func (m *maker) used(kind int) (string, int, bool) {
	if m.isWild() {
		return m.anyName(), m.next(4), true
	}
	var l []api.Proc
	for _, p := range m.src.Procs {
		if p.Kind == kind || m.isWild() {
			l = append(l, p)
		}
	}
	if len(l) == 0 {
		return "", 0, false
	}
	p := pick(m, l)
	if m.isWild() {
		return p.Name, m.next(4), true
	}
	return p.Name, len(p.Params), true
}

func (m *maker) results(words string) ([]string, bool) {
	var l []string
	for _, word := range strings.Fields(words) {
		s, ok := m.result(types[word])
		if !ok {
			return nil, false
		}
		l = append(l, s)
	}
	if m.rate > 0 && len(l) == 2 && m.next(10) == 0 {
		l[1] = l[0]
	}
	return l, true
}

func (m *maker) scopeHead(s *api.Stmt) {
	s.Exprs = []api.Expr{{}, {}}
	for i := range s.Exprs {
		if m.next(2) == 0 {
			s.Exprs[i] = m.short(1)
		}
	}
	if m.next(2) == 0 {
		s.Name, _ = m.result(1)
	}
}

func (m *maker) cases(s *api.Stmt) bool {
	for range 1 + m.next(4) {
		c := api.Case{Kind: 1 + m.next(2)}
		if m.next(6) == 0 && !slices.ContainsFunc(s.Cases, func(c api.Case) bool { return c.Kind == 3 }) {
			c.Kind = 3
		}
		ok := true
		if c.Kind != 3 {
			c.Name, ok = m.declared(6)
		}
		if c.Kind == 1 {
			c.Expr = m.short(1)
		}
		if c.Kind == 2 && ok {
			c.Names, ok = m.results("int bool")
		}
		if !ok {
			return false
		}
		s.Cases = append(s.Cases, c)
	}
	return true
}

// body returns statements, of which a depth is left.
func (m *maker) body(depth int) []api.Stmt {
	var l []api.Stmt
	if depth == 0 {
		return nil
	}
	for range m.next(m.statement + 1) {
		l = append(l, m.stmt(depth))
	}
	return l
}

// kind returns the kind of a statement; those that are often not possible are more frequent.
func (m *maker) kind() int {
	kind := 1 + m.next(28)
	switch {
	case m.isLong && m.next(2) == 0:
		return pick(m, []int{api.LetStmt, api.ObjectStmt, api.ObjectStmt, api.ObjectStmt, api.AddStmt, api.SwapStmt})
	case kind > 24:
		return api.CallStmt
	}
	return kind
}

func (m *maker) stmt(depth int) api.Stmt {
	before := slices.Clone(m.locals)
	s, ok := m.head(m.kind())
	for !ok {
		m.locals = slices.Clone(before)
		s, ok = m.head(m.kind())
	}
	inside := m.inside
	m.inside = inside || s.Kind == api.ScopeStmt || s.Kind == api.MaskStmt
	if slices.Contains([]int{3, 4, 5, 14, 15}, s.Kind) {
		s.Body = m.body(depth - 1)
	}
	if s.Kind == 3 {
		s.Else = m.body(depth - 1)
	}
	for i := range s.Cases {
		s.Cases[i].Body = m.body(depth - 1)
	}
	m.inside = inside
	return s
}

// decls makes declarations.
func (m *maker) decls(n int) {
	m.src.Decls = nil
	for i := range n {
		d := api.Decl{Name: declNames[i], Kind: pick(m, []int{101, 101, 102, 102, 1, 1, 2, 3, 4, 5, 6, 6, 7, 8, 9})}
		if m.isWild() {
			d.Name = pick(m, declNames[:i+1])
		}
		switch d.Kind {
		case 101, 102:
			d.A = []int{-1 << 40, -1, 0, 1 << 40}[m.next(4)]
		case 4, 5, 6, 7, 8:
			d.A = []int{1, 2, 100}[m.next(3)]
			if m.isWild() {
				d.A = []int{0, 101, 1 << 40}[m.next(3)]
			}
		}
		if d.Kind == 8 {
			d.B = []int{1, 1 << 40}[m.next(2)]
			if m.isWild() {
				d.B = 0
			}
		}
		m.src.Decls = append(m.src.Decls, d)
	}
	left := map[bool]int{true: 16, false: 16}
	m.src.Decls = slices.DeleteFunc(m.src.Decls, func(d api.Decl) bool {
		left[d.Kind > 100]--
		return left[d.Kind > 100] < 0 && m.rate == 0
	})
	for i := range m.src.Decls {
		if d := &m.src.Decls[i]; d.Kind == 3 {
			s, ok := m.declared(1)
			d.Name2 = s
			if !ok {
				d.Kind, d.Name2 = 1, ""
			}
		}
	}
}

// heads makes procedures without statements.
func (m *maker) heads(n int) {
	m.src.Procs = nil
	for i := range n {
		p := api.Proc{Name: procNames[i], Kind: 1 + m.next(3)}
		if m.isWild() {
			p.Name = pick(m, procNames[:i+1])
		}
		if i == 0 && !m.isWild() {
			p.Kind = 1
		}
		m.locals = nil
		if i > 0 || m.isWild() {
			for range m.next(4) {
				if s, ok := m.fresh(); ok {
					p.Params = append(p.Params, s)
					m.declare(s, 1)
				}
			}
		}
		m.src.Procs = append(m.src.Procs, p)
	}
}

// source returns a source that is valid for layer 11.
func (m *maker) source() api.Source {
	for {
		m.names = localNames[:[]int{6, 12, len(localNames)}[m.next(3)]]
		m.statement = []int{1, 3, 6}[m.next(3)]
		n, depth := 1+m.next(5), 4
		m.isLong = m.next(4) == 0
		if m.isLong {
			m.names, m.statement, n, depth = localNames, 80, 1+m.next(3), 1
		}
		if m.rate > 0 && m.next(20) == 0 {
			n = 0
		}
		m.src = api.Source{}
		m.decls([]int{0, 4, 12, 16, 32}[m.next(5)])
		m.heads(n)
		for i := range m.src.Procs {
			m.proc = m.src.Procs[i]
			m.locals, m.inside = nil, false
			for _, s := range m.proc.Params {
				m.declare(s, 1)
			}
			m.src.Procs[i].Body = m.body(1 + m.next(depth))
			m.statement = min(m.statement, 6)
		}
		if syntax.Check(m.src) == api.OK {
			return m.src
		}
	}
}

// sources returns n random sources, with problems unless rate is 0.
func sources(seed, n, rate int) []api.Source {
	m := &maker{next: randoms(seed), rate: rate}
	var l []api.Source
	for range n {
		l = append(l, m.source())
	}
	return l
}
