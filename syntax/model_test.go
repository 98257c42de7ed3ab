package syntax_test

import (
	"math/big"
	"reflect"
	"slices"
	"strings"

	"nursery/api"
	"nursery/expr"
	"nursery/lexer"
)

const (
	least    = -1 << 63
	greatest = 1<<63 - 1
	maxInt   = 1 << 40
)

// signs are the signs of the operators of expressions with two arguments, by their numbers from 3 on.
var signs = strings.Fields("+ - * / % == != < <= > >= && ||")

// declRow is what the chapter says of a kind of declarations: which fields they have, and how they begin. -A may be negative, and B1 is 0 or 1.
type declRow struct {
	kind      int
	word, has string
}

var declRows = []declRow{
	{101, "var", "-A"}, {102, "atomic", "-A"}, {1, "mutex", ""}, {2, "rwlock", ""}, {9, "future", ""}, {3, "cond", "Name2"},
	{4, "semaphore", "A B1"}, {5, "barrier", "A"}, {6, "channel", "A"}, {7, "topic", "A"}, {8, "limiter", "A B"},
}

// stmtRow is a row of the chapter's table of statements.
type stmtRow struct {
	kinds        []int
	name         string
	names, exprs [2]int // at least and at most
	others       string
}

var stmtRows = []stmtRow{
	{[]int{1, 2}, "a name", [2]int{0, 0}, [2]int{1, 1}, ""},
	{[]int{3}, "", [2]int{0, 0}, [2]int{1, 1}, "Body Else"},
	{[]int{4, 5}, "", [2]int{0, 0}, [2]int{1, 1}, "Body"},
	{[]int{6, 7, 8, 9, 10, 24}, "", [2]int{0, 0}, [2]int{1, 1}, ""},
	{[]int{11, 12, 13}, "", [2]int{0, 0}, [2]int{0, 0}, ""},
	{[]int{14}, "a name, or empty", [2]int{0, 0}, [2]int{2, 2}, "Body"},
	{[]int{15}, "", [2]int{0, 0}, [2]int{0, 0}, "Body"},
	{[]int{16, 18}, "a name", [2]int{0, 0}, [2]int{0, 8}, ""},
	{[]int{17}, "a name", [2]int{0, 1}, [2]int{0, 8}, ""},
	{[]int{19}, "a name", [2]int{}, [2]int{}, "Op"}, // the numbers depend on the Op
	{[]int{20}, "", [2]int{0, 0}, [2]int{0, 0}, "Cases"},
	{[]int{21}, "a name", [2]int{1, 1}, [2]int{1, 1}, ""},
	{[]int{22}, "a name", [2]int{1, 1}, [2]int{2, 2}, ""},
	{[]int{23}, "", [2]int{0, 0}, [2]int{2, 2}, ""},
}

// objectRow is an operation on objects.
type objectRow struct {
	op           int
	word         string
	exprs, names int
}

var objectRows = []objectRow{
	{50, "lock", 0, 0}, {52, "unlock", 0, 0}, {53, "readlock", 0, 0}, {54, "readunlock", 0, 0}, {55, "writelock", 0, 0}, {56, "writeunlock", 0, 0},
	{57, "wait", 0, 0}, {58, "signal", 0, 0}, {59, "broadcast", 0, 0}, {68 + 1, "subscribe", 0, 0}, {71, "unsubscribe", 0, 0}, {66, "close", 0, 0},
	{60, "acquire", 1, 0}, {62, "release", 1, 0}, {64, "send", 1, 0}, {68, "publish", 1, 0}, {72, "take", 1, 0}, {73, "complete", 1, 0},
	{51, "trylock", 0, 1}, {63, "arrive", 0, 1}, {70, "next", 0, 1}, {74, "await", 0, 1},
	{61, "tryacquire", 1, 1},
	{65, "receive", 0, 2},
}

func rowOf(kind int) stmtRow {
	i := slices.IndexFunc(stmtRows, func(row stmtRow) bool { return slices.Contains(row.kinds, kind) })
	if i < 0 {
		return stmtRow{}
	}
	return stmtRows[i]
}

// isEmpty reports whether a value is zero, where lists without elements are zero, too.
func isEmpty(v reflect.Value) bool {
	if v.Kind() == reflect.Struct {
		return !hasOthers(v.Interface(), "")
	}
	return v.IsZero() || v.Kind() == reflect.Slice && v.Len() == 0
}

// hasOthers reports whether a struct has a field that is not empty beside some.
func hasOthers(x any, fields string) bool {
	v := reflect.ValueOf(x)
	for i := range v.NumField() {
		if !isEmpty(v.Field(i)) && !slices.Contains(strings.Fields(fields), v.Type().Field(i).Name) {
			return true
		}
	}
	return false
}

func isZero(e api.Expr) bool {
	return !hasOthers(e, "")
}

// expectedSize adds up the sizes of what is waiting on a stack.
func expectedSize(src api.Source) int {
	var stack []any
	size := 0
	for _, p := range src.Procs {
		push(&stack, p.Body)
		for len(stack) > 0 && size <= 300 {
			last := len(stack) - 1
			top := stack[last]
			stack = stack[:last]
			switch x := top.(type) {
			case api.Stmt:
				push(&stack, x.Cases)
				push(&stack, x.Else)
				push(&stack, x.Body)
				push(&stack, slices.DeleteFunc(slices.Clone(x.Exprs), isZero))
			case api.Case:
				push(&stack, x.Body)
				push(&stack, slices.DeleteFunc([]api.Expr{x.Expr}, isZero))
			case api.Expr:
				push(&stack, x.Args)
			}
			size++
		}
	}
	return min(size, 301)
}

func push[T any](stack *[]any, l []T) {
	for _, x := range slices.Backward(l) {
		*stack = append(*stack, x)
	}
}

// expectedStatements returns the statements in preorder, with their depths.
func expectedStatements(body []api.Stmt, depth int) ([]api.Stmt, []int) {
	var l []api.Stmt
	var depths []int
	for _, s := range body {
		l, depths = append(l, s), append(depths, depth)
		inner := [][]api.Stmt{s.Body, s.Else}
		for _, c := range s.Cases {
			inner = append(inner, c.Body)
		}
		for _, body := range inner {
			more, moreDepths := expectedStatements(body, depth+1)
			l, depths = append(l, more...), append(depths, moreDepths...)
		}
	}
	return l, depths
}

func isName(s string) bool {
	return expr.Check(name(s)) == api.OK && !lexer.Keyword(s)
}

func areNames(l []string) bool {
	return !slices.ContainsFunc(l, func(s string) bool { return !isName(s) })
}

// finding is an error, and whether it applies.
type finding struct {
	err     api.Errno
	applies bool
}

// first returns the first error that applies.
func first(l []finding) api.Errno {
	for _, f := range l {
		if f.applies {
			return f.err
		}
	}
	return api.OK
}

func outside(x, from, to int) bool {
	return x < from || x > to
}

// expectedCheck returns what Check returns.
func expectedCheck(src api.Source) api.Errno {
	if len(src.Decls) > 32 || len(src.Procs) > 32 || expectedSize(src) > 300 {
		return api.ErrLimit
	}
	for _, p := range src.Procs {
		if _, depths := expectedStatements(p.Body, 1); slices.Max(append(depths, 0)) > 12 {
			return api.ErrDepth
		}
	}
	var l []finding
	for _, d := range src.Decls {
		l = append(l, declFindings(d)...)
	}
	for _, p := range src.Procs {
		l = append(l,
			finding{api.ErrKind, outside(p.Kind, 1, 3)},
			finding{api.ErrName, !isName(p.Name)},
			finding{api.ErrLimit, len(p.Params) > 8},
			finding{api.ErrName, !areNames(p.Params)},
			finding{api.ErrRange, outside(p.Priority, 0, 9) || p.Priority > 0 && p.Kind > 1})
		statements, _ := expectedStatements(p.Body, 1)
		for _, s := range statements {
			l = append(l, stmtFindings(s)...)
		}
	}
	return first(l)
}

func declFindings(d api.Decl) []finding {
	i := slices.IndexFunc(declRows, func(row declRow) bool { return row.kind == d.Kind })
	if i < 0 {
		return []finding{{api.ErrKind, true}}
	}
	has := strings.ReplaceAll(strings.ReplaceAll(declRows[i].has, "-A", "A"), "B1", "B")
	from, most := 0, maxInt
	if strings.Contains(declRows[i].has, "-A") {
		from = -maxInt
	}
	if strings.Contains(declRows[i].has, "B1") {
		most = 1
	}
	return []finding{
		{api.ErrArgument, hasOthers(d, "Kind Name "+has)},
		{api.ErrName, !isName(d.Name)},
		{api.ErrName, strings.Contains(has, "Name2") && !isName(d.Name2)},
		{api.ErrRange, outside(d.A, from, maxInt)},
		{api.ErrRange, outside(d.B, 0, most)},
	}
}

// caseFields are the fields of the kinds of cases.
var caseFields = []string{"", "Kind Name Expr Body", "Kind Name Names Body", "Kind Body"}

func stmtFindings(s api.Stmt) []finding {
	row := rowOf(s.Kind)
	if s.Kind == api.ObjectStmt {
		i := slices.IndexFunc(objectRows, func(o objectRow) bool { return o.op == s.Op })
		if i < 0 {
			return []finding{{api.ErrKind, true}}
		}
		row.names = [2]int{objectRows[i].names, objectRows[i].names}
		row.exprs = [2]int{objectRows[i].exprs, objectRows[i].exprs}
	}
	fields := "Kind Names Exprs " + row.others
	if row.name != "" {
		fields += " Name"
	}
	l := []finding{
		{api.ErrKind, row.kinds == nil},
		{api.ErrKind, slices.ContainsFunc(s.Cases, func(c api.Case) bool { return outside(c.Kind, 1, 3) })},
		{api.ErrArgument, hasOthers(s, fields)},
		{api.ErrArgument, outside(len(s.Names), row.names[0], row.names[1]) || outside(len(s.Exprs), row.exprs[0], row.exprs[1])},
		{api.ErrArgument, s.Kind == api.SelectStmt && outside(len(s.Cases), 1, 6)},
	}
	defaults := 0
	var names []string
	for _, c := range s.Cases {
		if outside(c.Kind, 1, 3) {
			continue
		}
		l = append(l, finding{api.ErrArgument, hasOthers(c, caseFields[c.Kind]) || c.Kind == 2 && len(c.Names) != 2})
		if c.Kind == 3 {
			defaults++
		} else {
			names = append(append(names, c.Name), c.Names...)
		}
	}
	isNamed := row.name == "a name" || row.name != "" && s.Name != ""
	l = append(l,
		finding{api.ErrName, isNamed && !isName(s.Name) || !areNames(s.Names) || !areNames(names)},
		finding{api.ErrExists, defaults > 1})
	for _, e := range s.Exprs {
		if s.Kind != api.ScopeStmt || !isZero(e) {
			l = append(l, exprFindings(e)...)
		}
	}
	for _, c := range s.Cases {
		if c.Kind == 1 {
			l = append(l, exprFindings(c.Expr)...)
		}
	}
	return append(l, finding{api.ErrArgument, s.Kind == api.BeginStmt && len(s.Exprs) > 0 && s.Exprs[0].Kind != api.NumberExpr})
}

func exprFindings(e api.Expr) []finding {
	err := expr.Check(e)
	return []finding{{err, err != api.OK}, {api.ErrName, !areNames(expr.Names(e))}}
}

// exprText returns the text of a valid expression.
func exprText(e api.Expr) string {
	s, _ := expr.Print(e)
	return s
}

// line is a line of a text: tokens behind tabs. An expression is one token here.
type line struct {
	tabs   int
	tokens []string
}

// text returns the line with spaces between the tokens.
func (l line) text() string {
	s := strings.Repeat("\t", l.tabs)
	for i, token := range l.tokens {
		if i > 0 && !strings.Contains(";,()", token) && !slices.Contains([]string{"(", "-"}, l.tokens[i-1]) {
			s += " "
		}
		s += token
	}
	return s + "\n"
}

// wording decides on what is left open in the text of a source.
type wording struct {
	expr  func(api.Expr) string
	extra func() bool // whether something is written that can be left out
}

// normal is the wording of Print.
var normal = wording{exprText, func() bool { return false }}

func (w wording) source(src api.Source) []line {
	var l []line
	for _, d := range src.Decls {
		l = append(l, line{0, w.decl(d)})
	}
	for _, p := range src.Procs {
		tokens := slices.Concat([]string{strings.Fields("_ task func cleanup")[p.Kind], p.Name, "("}, separated(p.Params), []string{")"})
		if p.Priority > 0 || p.Kind == 1 && w.extra() {
			tokens = append(tokens, "priority", big.NewInt(int64(p.Priority)).String())
		}
		l = append(l, line{0, append(tokens, "{")})
		l = append(l, w.body(p.Body, 1)...)
		l = append(l, line{0, []string{"}"}})
	}
	return l
}

// separated returns tokens with commas between them.
func separated(tokens []string) []string {
	var l []string
	for i, token := range tokens {
		if i > 0 {
			l = append(l, ",")
		}
		l = append(l, token)
	}
	return l
}

func (w wording) decl(d api.Decl) []string {
	row := declRows[slices.IndexFunc(declRows, func(row declRow) bool { return row.kind == d.Kind })]
	tokens := []string{row.word, d.Name}
	a := big.NewInt(int64(d.A)).String()
	switch row.has {
	case "-A":
		tokens = append(tokens, "=")
		if d.A < 0 || d.A == 0 && w.extra() {
			tokens = append(tokens, "-")
		}
		tokens = append(tokens, strings.TrimPrefix(a, "-"))
	case "Name2":
		tokens = append(tokens, "on", d.Name2)
	case "A", "A B1":
		tokens = append(tokens, a)
		tokens = append(tokens, []string{"any"}[:d.B]...)
	case "A B":
		tokens = append(tokens, a, "every", big.NewInt(int64(d.B)).String())
	}
	return append(tokens, ";")
}

// words are the first words of statements by their Kinds.
var words = strings.Fields("_ let _ if while repeat return fail assert emit sleep yield checkpoint cancel scope mask spawn call defer _ select add swap begin end")

func (w wording) exprs(l []api.Expr) []string {
	var tokens []string
	for _, e := range l {
		tokens = append(tokens, w.expr(e))
	}
	return tokens
}

// before returns nothing if there are no tokens, and otherwise a word and them.
func before(word string, tokens []string) []string {
	if len(tokens) == 0 {
		return nil
	}
	return append([]string{word}, tokens...)
}

// stmt returns the tokens of a statement before its end, or its first block.
func (w wording) stmt(s api.Stmt) []string {
	results := before("as", separated(s.Names))
	exprs := w.exprs(s.Exprs)
	switch s.Kind {
	case api.LetStmt:
		return []string{"let", s.Name, "=", exprs[0]}
	case api.AssignStmt:
		return []string{s.Name, "=", exprs[0]}
	case api.ScopeStmt:
		tokens := []string{"scope"}
		if !isZero(s.Exprs[0]) {
			tokens = append(tokens, "deadline", exprs[0])
		}
		if !isZero(s.Exprs[1]) {
			tokens = append(tokens, "budget", exprs[1])
		}
		if s.Name != "" {
			tokens = append(tokens, "as", s.Name)
		}
		return tokens
	case api.SpawnStmt, api.CallStmt, api.DeferStmt:
		return slices.Concat([]string{words[s.Kind], s.Name, "("}, separated(exprs), []string{")"}, results)
	case api.ObjectStmt:
		i := slices.IndexFunc(objectRows, func(o objectRow) bool { return o.op == s.Op })
		return slices.Concat([]string{objectRows[i].word, s.Name}, before(",", separated(exprs)), results)
	case api.AddStmt, api.SwapStmt:
		return slices.Concat([]string{words[s.Kind], s.Name, ","}, separated(exprs), results)
	case api.BeginStmt:
		// The number of the method has no parentheses.
		return []string{"begin", exprText(s.Exprs[0]), ",", exprs[1]}
	}
	return append([]string{words[s.Kind]}, exprs...)
}

func (w wording) body(body []api.Stmt, tabs int) []line {
	var l []line
	for _, s := range body {
		tokens := w.stmt(s)
		others := rowOf(s.Kind).others
		if others == "" || others == "Op" {
			l = append(l, line{tabs, append(tokens, ";")})
			continue
		}
		l = append(l, line{tabs, append(tokens, "{")})
		for _, c := range s.Cases {
			l = append(l, line{tabs + 1, w.oneCase(c)})
			l = append(l, w.body(c.Body, tabs+2)...)
			l = append(l, line{tabs + 1, []string{"}"}})
		}
		l = append(l, w.body(s.Body, tabs+1)...)
		if len(s.Else) > 0 || s.Kind == api.IfStmt && w.extra() {
			l = append(l, line{tabs, []string{"}", "else", "{"}})
			l = append(l, w.body(s.Else, tabs+1)...)
		}
		l = append(l, line{tabs, []string{"}"}})
	}
	return l
}

func (w wording) oneCase(c api.Case) []string {
	switch c.Kind {
	case api.SendCase:
		return []string{"send", c.Name, ",", w.expr(c.Expr), "{"}
	case api.ReceiveCase:
		return []string{"receive", c.Name, "as", c.Names[0], ",", c.Names[1], "{"}
	}
	return []string{"default", "{"}
}

// expectedText returns the text of a valid source, however long it is.
func expectedText(src api.Source) string {
	var s strings.Builder
	for _, l := range normal.source(src) {
		s.WriteString(l.text())
	}
	return s.String()
}

// expectedPrint returns what Print returns.
func expectedPrint(src api.Source) (string, api.Errno) {
	if err := expectedCheck(src); err != api.OK {
		return "", err
	}
	if s := expectedText(src); len(s) <= 4000 {
		return s, api.OK
	}
	return "", api.ErrLimit
}
