package syntax

import (
	"nursery/api"
	"nursery/lexer"
)

// failure is the byte offset of an error, and the error. The reader gives up by a panic with it, because it may be deep inside of blocks.
type failure struct {
	at  int
	err api.Errno
}

// reader reads a source from tokens, of which the last one is the EndToken.
type reader struct {
	tokens []api.Token
	next   int              // the index of the first token that was not read
	shapes map[string]shape // by the words with which statements begin
}

// read returns the source with some tokens, which may be too large or not valid; or the byte offset of an error.
func read(tokens []api.Token) (src api.Source, at int, err api.Errno) {
	defer func() {
		if reason := recover(); reason != nil {
			f := reason.(failure)
			src, at, err = api.Source{}, f.at, f.err
		}
	}()
	r := &reader{tokens: tokens, shapes: allShapes().byWord()}
	return r.source(), 0, api.OK
}

func (r *reader) giveUp() {
	panic(failure{r.tokens[r.next].At, api.ErrSyntax})
}

// is reports whether the next token is a reserved name or a sign.
func (r *reader) is(text string) bool {
	return r.tokens[r.next].Text == text
}

// accept reads a reserved name or a sign if it is the next token, and reports whether it is.
func (r *reader) accept(text string) bool {
	if !r.is(text) {
		return false
	}
	r.next++
	return true
}

// expect reads a reserved name or a sign.
func (r *reader) expect(text string) {
	if !r.accept(text) {
		r.giveUp()
	}
}

func (r *reader) name() string {
	t := r.tokens[r.next]
	if t.Kind != api.NameToken || lexer.Keyword(t.Text) {
		r.giveUp()
	}
	r.next++
	return t.Text
}

func (r *reader) number() int {
	t := r.tokens[r.next]
	if t.Kind != api.NumberToken {
		r.giveUp()
	}
	r.next++
	return t.Value
}

// signed reads a number, or - and a number.
func (r *reader) signed() int {
	if r.accept("-") {
		return -r.number()
	}
	return r.number()
}

func (r *reader) expression() api.Expr {
	e, n, err := lexer.Expr(r.tokens[r.next:])
	if err != api.OK && err != api.ErrSyntax {
		panic(failure{0, err})
	}
	r.next += n
	if err != api.OK {
		r.giveUp()
	}
	return e
}

// listed reads a list in parentheses.
func listed[T any](r *reader, element func() T) []T {
	var l []T
	r.expect("(")
	if r.accept(")") {
		return l
	}
	for {
		l = append(l, element())
		if r.accept(")") {
			return l
		}
		r.expect(",")
	}
}

// results reads the names behind as, of which there are n.
func (r *reader) results(n int) []string {
	var names []string
	before := "as"
	for range n {
		r.expect(before)
		names = append(names, r.name())
		before = ","
	}
	return names
}

func (r *reader) source() api.Source {
	var src api.Source
	for {
		f, found := findDeclShape(func(f declShape) bool { return r.is(f.word) })
		if !found {
			break
		}
		r.next++
		src.Decls = append(src.Decls, r.declaration(f.kind))
	}
	for r.tokens[r.next].Kind != api.EndToken {
		src.Procs = append(src.Procs, r.procedure())
	}
	return src
}

// declaration reads what stands behind the word of a declaration.
func (r *reader) declaration(kind int) api.Decl {
	d := api.Decl{Kind: kind, Name: r.name()}
	switch kind {
	case api.VarDecl, api.AtomicDecl:
		r.expect("=")
		d.A = r.signed()
	case api.CondKind:
		r.expect("on")
		d.Name2 = r.name()
	case api.SemaphoreKind:
		d.A = r.number()
		if r.accept("any") {
			d.B = 1
		}
	case api.BarrierKind, api.ChannelKind, api.TopicKind:
		d.A = r.number()
	case api.LimiterKind:
		d.A = r.number()
		r.expect("every")
		d.B = r.number()
	}
	r.expect(";")
	return d
}

func (r *reader) procedure() api.Proc {
	p := api.Proc{Kind: r.procKind()}
	p.Name = r.name()
	p.Params = listed(r, r.name)
	if p.Kind == api.TaskProc && r.accept("priority") {
		p.Priority = r.number()
	}
	p.Body = r.block()
	return p
}

func (r *reader) procKind() int {
	switch {
	case r.accept("task"):
		return api.TaskProc
	case r.accept("func"):
		return api.FuncProc
	}
	r.expect("cleanup")
	return api.CleanupProc
}

func (r *reader) block() []api.Stmt {
	var body []api.Stmt
	r.expect("{")
	for !r.accept("}") {
		body = append(body, r.statement())
	}
	return body
}

func (r *reader) statement() api.Stmt {
	f, found := r.shapes[r.tokens[r.next].Text]
	if !found {
		return r.assignment()
	}
	r.next++
	s := api.Stmt{Kind: f.kind, Op: f.op}
	f.read(r, &s, f)
	switch {
	case f.cases.most > 0:
		s.Cases = r.cases()
	case f.body:
		s.Body = r.block()
		if f.orElse && r.accept("else") {
			s.Else = r.block()
		}
	default:
		r.expect(";")
	}
	return s
}

func (r *reader) assignment() api.Stmt {
	s := api.Stmt{Kind: api.AssignStmt}
	readAssignment(r, &s, shape{})
	r.expect(";")
	return s
}

// cases reads the block of a select.
func (r *reader) cases() []api.Case {
	r.expect("{")
	l := []api.Case{r.oneCase()}
	for !r.accept("}") {
		l = append(l, r.oneCase())
	}
	return l
}

func (r *reader) oneCase() api.Case {
	var c api.Case
	switch {
	case r.accept("send"):
		c.Kind = api.SendCase
		c.Name = r.name()
		r.expect(",")
		c.Expr = r.expression()
	case r.accept("receive"):
		c.Kind = api.ReceiveCase
		c.Name = r.name()
		c.Names = r.results(2)
	default:
		r.expect("default")
		c.Kind = api.DefaultCase
	}
	c.Body = r.block()
	return c
}

func readAssignment(r *reader, s *api.Stmt, _ shape) {
	s.Name = r.name()
	r.expect("=")
	s.Exprs = []api.Expr{r.expression()}
}

// readValues reads at most one expression.
func readValues(r *reader, s *api.Stmt, f shape) {
	for range f.exprs.least {
		s.Exprs = append(s.Exprs, r.expression())
	}
}

func readBegin(r *reader, s *api.Stmt, _ shape) {
	method := api.Expr{Kind: api.NumberExpr, Value: r.number()}
	r.expect(",")
	s.Exprs = []api.Expr{method, r.expression()}
}

func readScope(r *reader, s *api.Stmt, _ shape) {
	for _, word := range [...]string{"deadline", "budget"} {
		var e api.Expr
		if r.accept(word) {
			e = r.expression()
		}
		s.Exprs = append(s.Exprs, e)
	}
	if r.accept("as") {
		s.Name = r.name()
	}
}

func readInvocation(r *reader, s *api.Stmt, f shape) {
	s.Name = r.name()
	s.Exprs = listed(r, r.expression)
	// For spawn and defer nothing is read here, so that the as is an error.
	if r.is("as") {
		s.Names = r.results(f.names.most)
	}
}

func readOperation(r *reader, s *api.Stmt, f shape) {
	s.Name = r.name()
	for range f.exprs.least {
		r.expect(",")
		s.Exprs = append(s.Exprs, r.expression())
	}
	s.Names = r.results(f.names.least)
}
