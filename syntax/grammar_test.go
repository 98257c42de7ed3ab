package syntax_test

import (
	"regexp"
	"slices"
	"strings"

	"nursery/api"
	"nursery/lexer"
)

// chapterGrammar is the grammar as the chapter gives it, with the objects as the chapter describes them, and with the expressions of layer 10.
const chapterGrammar = `
source = { decl } { proc }
decl = ("var" | "atomic") n "=" sint ";" | ("mutex" | "rwlock" | "future") n ";" | "cond" n "on" n ";" | "semaphore" n int ["any"] ";" | ("barrier" | "channel" | "topic") n int ";" | "limiter" n int "every" int ";"
proc = ("task" n params ["priority" int] | ("func" | "cleanup") n params) block
params = "(" [n {"," n}] ")"
args = "(" [e {"," e}] ")"
block = "{" { stmt } "}"
stmt = "let" n "=" e ";" | n "=" e ";" | "if" e block ["else" block] | ("while" | "repeat") e block | ("return" | "fail" | "assert" | "emit" | "sleep" | "end") e ";" | ("yield" | "checkpoint" | "cancel") ";" | "scope" ["deadline" e] ["budget" e] ["as" n] block | "mask" block | ("spawn" | "defer") n args ";" | "call" n args ["as" n] ";" | "begin" int "," e ";" | "add" n "," e "as" n ";" | "swap" n "," e "," e "as" n ";" | object ";" | "select" "{" case { case } "}"
object = ("lock" | "unlock" | "readlock" | "readunlock" | "writelock" | "writeunlock" | "wait" | "signal" | "broadcast" | "subscribe" | "unsubscribe" | "close") n | ("acquire" | "release" | "send" | "publish" | "take" | "complete") n "," e | ("trylock" | "arrive" | "next" | "await") n "as" n | "tryacquire" n "," e "as" n | "receive" n "as" n "," n
case = ("send" n "," e | "receive" n "as" n "," n | "default") block
sint = int | "-" int
e = e1
e1 = e2 {"||" e2}
e2 = e3 {"&&" e3}
e3 = e4 [("==" | "!=" | "<" | "<=" | ">" | ">=") e4]
e4 = e5 {("+" | "-") e5}
e5 = operand {("*" | "/" | "%") operand}
operand = int | n | ("-" | "!") operand | "(" e1 ")"
`

// rule is a part of the grammar: a literal token (with quotation marks), a name, or parts in a sequence, as alternatives ("|"), as something that may be missing ("["), or that occurs any number of times ("{").
type rule struct {
	kind  string
	parts []rule
}

// grammar has the rules by their names.
var grammar = readGrammar(chapterGrammar)

func readGrammar(text string) map[string]rule {
	rules := map[string]rule{}
	for _, l := range strings.Split(strings.TrimSpace(text), "\n") {
		name, body, _ := strings.Cut(l, " = ")
		words := regexp.MustCompile(`"[^"]*"|[a-z0-9]+|\S`).FindAllString(body, -1)
		rules[name], _ = readRule(words)
	}
	return rules
}

// readRule reads alternatives, up to the end or a closing bracket, and returns what is left.
func readRule(words []string) (rule, []string) {
	alternatives := rule{"|", nil}
	sequence := rule{"", nil}
	for len(words) > 0 && !strings.Contains(")]}", words[0]) {
		word := words[0]
		words = words[1:]
		switch word {
		case "|":
			alternatives.parts = append(alternatives.parts, sequence)
			sequence = rule{"", nil}
		case "(", "[", "{":
			var inner rule
			inner, words = readRule(words)
			words = words[1:]
			if word != "(" {
				inner = rule{word, []rule{inner}}
			}
			sequence.parts = append(sequence.parts, inner)
		default:
			sequence.parts = append(sequence.parts, rule{word, nil})
		}
	}
	return rule{"|", append(alternatives.parts, sequence)}, words
}

// todo is what has to be matched: a rule, and then the rest. A rule whose kind begins with / ends the rule with this name.
type todo struct {
	rule rule
	rest *todo
}

// step is a token that was matched, or the beginning or the end of a rule with a name, and the step before it.
type step struct {
	token  int // -1 for rules
	name   string
	before *step
}

// thread is one way to read the tokens so far.
type thread struct {
	todo *todo
	last *step
}

// expand returns the threads into which one divides before it matches its next token; those with nothing left to do are at the end of a source.
func expand(t thread) []thread {
	if t.todo == nil {
		return []thread{t}
	}
	r, rest := t.todo.rule, t.todo.rest
	switch {
	case r.kind == "":
		for _, part := range slices.Backward(r.parts) {
			rest = &todo{part, rest}
		}
		return expand(thread{rest, t.last})
	case r.kind == "|":
		var l []thread
		for _, part := range r.parts {
			l = append(l, expand(thread{&todo{part, rest}, t.last})...)
		}
		return l
	case r.kind == "[":
		return append(expand(thread{rest, t.last}), expand(thread{&todo{r.parts[0], rest}, t.last})...)
	case r.kind == "{":
		return append(expand(thread{rest, t.last}), expand(thread{&todo{r.parts[0], t.todo}, t.last})...)
	case r.kind[0] == '/':
		return expand(thread{rest, &step{-1, r.kind, t.last}})
	case r.kind == "n" || r.kind == "int" || r.kind[0] == '"':
		return []thread{t}
	}
	inner := &todo{grammar[r.kind], &todo{rule{"/" + r.kind, nil}, rest}}
	return expand(thread{inner, &step{-1, r.kind, t.last}})
}

// beginsWith reports whether a thread has just begun a rule.
func (t thread) beginsWith(name string) bool {
	for s := t.last; s != nil && s.token < 0; s = s.before {
		if s.name == name {
			return true
		}
	}
	return false
}

// matches reports whether a token is what a thread needs next.
func (t thread) matches(token api.Token) bool {
	if t.todo == nil {
		return token.Kind == api.EndToken
	}
	switch kind := t.todo.rule.kind; kind {
	case "n":
		return token.Kind == api.NameToken && !lexer.Keyword(token.Text)
	case "int":
		return token.Kind == api.NumberToken
	default:
		return kind == `"`+token.Text+`"`
	}
}

// expectedRead returns the way to read tokens; or the index of the first one with which no source begins, or -1 and an error of an expression.
func expectedRead(l []api.Token) (*step, int, api.Errno) {
	threads := expand(thread{&todo{rule{"source", nil}, nil}, nil})
	for i, token := range l {
		for _, t := range threads {
			if !t.beginsWith("e") {
				continue
			}
			if _, _, err := lexer.Expr(l[i:]); err != api.OK && err != api.ErrSyntax {
				return nil, -1, err
			}
			break
		}
		var next []thread
		for _, t := range threads {
			if !t.matches(token) {
				continue
			}
			if t.todo == nil {
				return t.last, 0, api.OK
			}
			next = append(next, expand(thread{t.todo.rest, &step{i, "", t.last}})...)
		}
		if next == nil {
			return nil, i, api.ErrSyntax
		}
		threads = next
	}
	return nil, len(l), api.ErrSyntax
}

// tree is a rule and what it consists of, or a token with the index at which it stands; at is also that of the first token of a rule.
type tree struct {
	name  string // of a rule
	at    int
	parts []tree
}

// treeOf returns the tree of the rule source that ends with a step.
func treeOf(last *step) tree {
	var steps []*step
	for ; last != nil; last = last.before {
		steps = append(steps, last)
	}
	stack := []tree{{}}
	at := 0
	for _, s := range slices.Backward(steps) {
		top := len(stack) - 1
		switch {
		case s.token >= 0:
			stack[top].parts = append(stack[top].parts, tree{"", s.token, nil})
			at = s.token + 1
		case s.name[0] != '/':
			stack = append(stack, tree{s.name, at, nil})
		default:
			stack[top-1].parts = append(stack[top-1].parts, stack[top])
			stack = stack[:top]
		}
	}
	return stack[0].parts[0]
}

// content is what a rule consists of directly, or within rules that do not matter.
type content struct {
	words  []string // reserved names and signs
	names  []string
	ints   []int
	exprs  []api.Expr
	blocks [][]api.Stmt
	cases  []api.Case
	decls  []api.Decl
	procs  []api.Proc
}

// builder makes sources out of trees.
type builder struct {
	tokens []api.Token
}

// content collects what a tree consists of.
func (b builder) content(t tree) content {
	var c content
	b.collect(&c, t.parts)
	return c
}

func (b builder) collect(c *content, parts []tree) {
	for _, t := range parts {
		switch t.name {
		case "":
			b.token(c, b.tokens[t.at])
		case "e":
			e, _, _ := lexer.Expr(b.tokens[t.at:])
			c.exprs = append(c.exprs, e)
		case "block":
			c.blocks = append(c.blocks, b.block(t))
		case "case":
			c.cases = append(c.cases, b.oneCase(t))
		case "decl":
			c.decls = append(c.decls, b.decl(t))
		case "proc":
			c.procs = append(c.procs, b.proc(t))
		default:
			b.collect(c, t.parts)
		}
	}
}

func (b builder) token(c *content, t api.Token) {
	switch {
	case t.Kind == api.NumberToken:
		c.ints = append(c.ints, t.Value)
	case t.Kind == api.NameToken && !lexer.Keyword(t.Text):
		c.names = append(c.names, t.Text)
	default:
		c.words = append(c.words, t.Text)
	}
}

func (b builder) block(t tree) []api.Stmt {
	var l []api.Stmt
	for _, part := range t.parts {
		if part.name == "stmt" {
			l = append(l, b.stmt(part))
		}
	}
	return l
}

func (b builder) source(t tree) api.Source {
	c := b.content(t)
	return api.Source{Decls: c.decls, Procs: c.procs}
}

func (b builder) decl(t tree) api.Decl {
	c := b.content(t)
	i := slices.IndexFunc(declRows, func(row declRow) bool { return row.word == c.words[0] })
	d := api.Decl{Kind: declRows[i].kind, Name: c.names[0]}
	if len(c.names) > 1 {
		d.Name2 = c.names[1]
	}
	if len(c.ints) > 0 {
		d.A = c.ints[0]
	}
	if len(c.ints) > 1 {
		d.B = c.ints[1]
	}
	if slices.Contains(c.words, "-") {
		d.A = -d.A
	}
	if slices.Contains(c.words, "any") {
		d.B = 1
	}
	return d
}

func (b builder) proc(t tree) api.Proc {
	c := b.content(t)
	p := api.Proc{Kind: slices.Index([]string{"", "task", "func", "cleanup"}, c.words[0]), Name: c.names[0], Params: c.names[1:], Body: c.blocks[0]}
	if len(c.ints) > 0 {
		p.Priority = c.ints[0]
	}
	return p
}

func (b builder) stmt(t tree) api.Stmt {
	c := b.content(t)
	s := api.Stmt{Kind: slices.Index(words, c.words[0]), Exprs: c.exprs, Cases: c.cases}
	if i := slices.IndexFunc(objectRows, func(o objectRow) bool { return o.word == c.words[0] }); i >= 0 {
		s.Kind, s.Op = api.ObjectStmt, objectRows[i].op
	}
	if c.words[0] == "=" {
		s.Kind = api.AssignStmt
	}
	if len(c.names) > 0 {
		s.Name, s.Names = c.names[0], c.names[1:]
	}
	if len(c.blocks) > 0 {
		s.Body = c.blocks[0]
	}
	if len(c.blocks) > 1 {
		s.Else = c.blocks[1]
	}
	switch s.Kind {
	case api.BeginStmt:
		s.Exprs = append([]api.Expr{num(c.ints[0])}, s.Exprs...)
	case api.ScopeStmt:
		s.Exprs = make([]api.Expr, 2)
		for i, word := range []string{"deadline", "budget"} {
			if slices.Contains(c.words, word) {
				s.Exprs[i] = c.exprs[0]
				c.exprs = c.exprs[1:]
			}
		}
	}
	return s
}

func (b builder) oneCase(t tree) api.Case {
	c := b.content(t)
	result := api.Case{Kind: 1 + slices.Index([]string{"send", "receive", "default"}, c.words[0]), Body: c.blocks[0]}
	if len(c.names) > 0 {
		result.Name, result.Names = c.names[0], c.names[1:]
	}
	if len(c.exprs) > 0 {
		result.Expr = c.exprs[0]
	}
	return result
}

// expectedParse returns what Parse returns.
func expectedParse(s string) (api.Source, int, api.Errno) {
	l, at, err := lexer.Tokens(s)
	if err != api.OK {
		return api.Source{}, at, err
	}
	last, i, err := expectedRead(l)
	if i < 0 {
		return api.Source{}, 0, err
	}
	if err != api.OK {
		return api.Source{}, l[i].At, err
	}
	src := builder{l}.source(treeOf(last))
	if err := expectedCheck(src); err != api.OK {
		return api.Source{}, 0, err
	}
	return src, 0, api.OK
}
