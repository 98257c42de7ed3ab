package typecheck_test

import (
	"cmp"
	"slices"
	"strings"

	"nursery/api"
	"nursery/syntax"
)

// types are the types of expressions by their words.
var types = map[string]int{"int": 1, "bool": 2}

// stmtRow is what the chapter says of a kind of statements.
type stmtRow struct {
	kind  int
	where string // "no clean-up", or "return"
	name  string // what has the Name
	exprs string // the type of the expressions
	as    string // the types of the names behind as
}

var stmtRows = []stmtRow{
	{1, "", "nothing", "either", ""},       // let
	{2, "", "variable", "variable", ""},    // assignment
	{3, "", "", "bool", ""},                // if
	{4, "", "", "bool", ""},                // while
	{5, "", "", "int", ""},                 // repeat
	{6, "return", "", "int", ""},           // return
	{7, "", "", "int", ""},                 // fail
	{8, "", "", "bool", ""},                // assert
	{9, "", "", "int", ""},                 // emit
	{10, "", "", "int", ""},                // sleep
	{11, "", "", "", ""},                   // yield
	{12, "", "", "", ""},                   // checkpoint
	{13, "no clean-up", "", "", ""},        // cancel
	{14, "no clean-up", "", "int", ""},     // scope
	{15, "no clean-up", "", "", ""},        // mask
	{16, "no clean-up", "1", "int", ""},    // spawn a task
	{17, "no clean-up", "2", "int", "int"}, // call a function
	{18, "no clean-up", "3", "int", ""},    // defer a clean-up procedure
	{19, "", "object", "int", ""},          // as depends on the Op
	{20, "", "", "", ""},                   // select
	{21, "", "atomic", "int", "int"},       // add
	{22, "", "atomic", "int", "bool"},      // swap
	{23, "no clean-up", "", "int", ""},     // begin
	{24, "no clean-up", "", "int", ""},     // end
}

// objectRow is an operation on objects of a kind.
type objectRow struct {
	op, kind int
	word, as string
	exprs    int
}

var objectRows = []objectRow{
	{50, 1, "lock", "", 0}, {51, 1, "trylock", "bool", 0}, {52, 1, "unlock", "", 0},
	{53, 2, "readlock", "", 0}, {54, 2, "readunlock", "", 0}, {55, 2, "writelock", "", 0}, {56, 2, "writeunlock", "", 0},
	{57, 3, "wait", "", 0}, {58, 3, "signal", "", 0}, {59, 3, "broadcast", "", 0},
	{60, 4, "acquire", "", 1}, {61, 4, "tryacquire", "bool", 1}, {62, 4, "release", "", 1},
	{63, 5, "arrive", "int", 0},
	{64, 6, "send", "", 1}, {65, 6, "receive", "int bool", 0}, {66, 6, "close", "", 0},
	{68, 7, "publish", "", 1}, {69, 7, "subscribe", "", 0}, {70, 7, "next", "int", 0}, {71, 7, "unsubscribe", "", 0},
	{72, 8, "take", "", 1},
	{73, 9, "complete", "", 1}, {74, 9, "await", "int", 0},
}

func objectRowOf(op int) objectRow {
	return objectRows[slices.IndexFunc(objectRows, func(row objectRow) bool { return row.op == op })]
}

// signatures are the types of the arguments and of the values of the operators, by their numbers from 1 on.
var signatures = strings.Split("int int,bool bool,"+
	"int int int,int int int,int int int,int int int,int int int,"+
	"same same bool,same same bool,int int bool,int int bool,int int bool,int int bool,"+
	"bool bool bool,bool bool bool", ",")

// env is what is known at a place of a procedure.
type env struct {
	src    api.Source
	locals []api.Binding // in the order in which they are declared
}

// decl returns the kind of the first declaration of a name, or 0.
func (v env) decl(name string) int {
	for _, d := range v.src.Decls {
		if d.Name == name {
			return d.Kind
		}
	}
	return 0
}

// local returns the type of a local variable, or 0.
func (v env) local(name string) int {
	for _, b := range v.locals {
		if b.Name == name {
			return b.Type
		}
	}
	return 0
}

func (v env) variable(name string) int {
	if v.decl(name) >= 101 {
		return 1
	}
	return v.local(name)
}

func (v env) typeOf(e api.Expr) (int, api.Errno) {
	var args []int
	for _, arg := range e.Args {
		typ, err := v.typeOf(arg)
		if err != api.OK {
			return 0, err
		}
		args = append(args, typ)
	}
	switch {
	case e.Kind == api.NumberExpr:
		return 1, api.OK
	case e.Kind == api.NameExpr && v.variable(e.Name) == 0:
		return 0, api.ErrNotFound
	case e.Kind == api.NameExpr:
		return v.variable(e.Name), api.OK
	}
	words := strings.Fields(signatures[e.Op-1])
	for i, word := range words[:len(words)-1] {
		if args[i] != types[word] && word != "same" || word == "same" && args[i] != args[0] {
			return 0, api.ErrType
		}
	}
	return types[words[len(words)-1]], api.OK
}

func (v *env) declare(name string, typ int) {
	if v.decl(name) == 0 && v.local(name) == 0 && len(v.locals) < 20 {
		v.locals = append(v.locals, api.Binding{Name: name, Type: typ})
	}
}

// violation is a rule that is violated: At are its number, and the numbers of what is examined by it.
type violation struct {
	at  []int
	err api.Errno
}

// violations are those that were found so far, in any order.
type violations []violation

func (l *violations) when(isViolated bool, err api.Errno, at ...int) {
	if isViolated {
		*l = append(*l, violation{at, err})
	}
}

func (l violations) first() api.Errno {
	if len(l) == 0 {
		return api.OK
	}
	return slices.MinFunc(l, func(a, b violation) int { return slices.Compare(a.at, b.at) }).err
}

// placed is a statement with the kinds of the statements around it.
type placed struct {
	stmt   api.Stmt
	around []int
}

// listed returns statements in preorder.
func listed(body []api.Stmt, around ...int) []placed {
	var l []placed
	for _, s := range body {
		l = append(l, placed{s, around})
		inner := append(slices.Clone(around), s.Kind)
		l = append(l, listed(s.Body, inner...)...)
		l = append(l, listed(s.Else, inner...)...)
		for _, c := range s.Cases {
			l = append(l, listed(c.Body, inner...)...)
		}
	}
	return l
}

func expectedDecl(src api.Source, i int) api.Errno {
	d := src.Decls[i]
	isVar := d.Kind > 100
	same := 0
	for _, other := range src.Decls[:i] {
		if other.Kind > 100 == isVar {
			same++
		}
	}
	least := map[int]int{4: 1, 5: 1, 6: 0, 7: 1, 8: 1}
	lowest, isSized := least[d.Kind]
	mutex := env{src: src}.decl(d.Name2)
	var l violations
	l.when(slices.ContainsFunc(src.Decls[:i], func(other api.Decl) bool { return other.Name == d.Name }), api.ErrExists, 1)
	l.when(same >= 16, api.ErrLimit, 2)
	l.when(isSized && (d.A < lowest || d.A > 100) || d.Kind == 8 && (d.B < 1 || d.B > 1<<40), api.ErrRange, 3)
	l.when(d.Kind == 3 && mutex == 0, api.ErrNotFound, 4)
	l.when(d.Kind == 3 && mutex != 1, api.ErrKind, 5)
	return l.first()
}

func expectedProc(src api.Source, i int) api.Errno {
	p := src.Procs[i]
	var l violations
	l.when(slices.ContainsFunc(src.Procs[:i], func(other api.Proc) bool { return other.Name == p.Name }), api.ErrExists, 1)
	l.when(i == 0 && (p.Kind != 1 || len(p.Params) != 0), api.ErrConflict, 2)
	for j, name := range p.Params {
		l.when(slices.Index(p.Params, name) < j || env{src: src}.decl(name) != 0, api.ErrExists, 3)
	}
	return l.first()
}

// place examines rule 1.
func (l *violations) place(p api.Proc, s placed, where string) {
	l.when(where == "no clean-up" && p.Kind == 3, api.ErrConflict, 1)
	l.when(where == "return" && p.Kind != 1 && (slices.Contains(s.around, 14) || slices.Contains(s.around, 15)), api.ErrState, 1)
}

// object examines a name that must be that of an object, by the rule at some place.
func (l *violations) object(v env, name string, kind int, at ...int) {
	l.when(v.decl(name) == 0, api.ErrNotFound, append(slices.Clone(at), 1)...)
	l.when(v.decl(name) != kind, api.ErrKind, append(slices.Clone(at), 2)...)
}

// name examines rule 2.
func (l *violations) name(v env, s api.Stmt, want string) {
	switch want {
	case "nothing":
		l.when(v.local(s.Name) != 0 || v.decl(s.Name) != 0, api.ErrExists, 2)
	case "variable":
		l.when(v.variable(s.Name) == 0, api.ErrNotFound, 2)
	case "1", "2", "3":
		i := slices.IndexFunc(v.src.Procs, func(p api.Proc) bool { return p.Name == s.Name })
		l.when(i < 0, api.ErrNotFound, 2)
		if i >= 0 {
			l.when(int(want[0]-'0') != v.src.Procs[i].Kind, api.ErrKind, 2, 1)
			l.when(len(s.Exprs) != len(v.src.Procs[i].Params), api.ErrMismatch, 2, 2)
		}
	case "object":
		l.object(v, s.Name, objectRowOf(s.Op).kind, 2)
	case "atomic":
		l.when(v.decl(s.Name) < 101, api.ErrNotFound, 2, 1)
		l.when(v.decl(s.Name) != 102, api.ErrKind, 2, 2)
	}
}

// expr examines an expression by the rule at some place, and returns its type.
func (l *violations) expr(v env, e api.Expr, want int, at ...int) int {
	typ, err := v.typeOf(e)
	l.when(err != api.OK, err, append(slices.Clone(at), 1)...)
	l.when(want != 0 && typ != want, api.ErrType, append(slices.Clone(at), 2)...)
	return max(typ, 1)
}

// as examines the names behind as by the rule at some place, and declares them.
func (l *violations) as(v *env, names []string, words string, at ...int) {
	for i, name := range names {
		typ := types[strings.Fields(words)[i]]
		at := append(slices.Clone(at), i)
		known := v.local(name)
		l.when(v.decl(name) != 0, api.ErrExists, append(slices.Clone(at), 1)...)
		l.when(known != 0 && known != typ, api.ErrType, append(slices.Clone(at), 2)...)
		l.when(i == 0 && len(names) == 2 && names[1] == name, api.ErrConflict, append(slices.Clone(at), 3)...)
		l.when(known == 0 && len(v.locals) == 20, api.ErrLimit, append(slices.Clone(at), 4)...)
		v.declare(name, typ)
	}
}

// expectedStmt returns the error of a statement, and declares its names.
func expectedStmt(v *env, p api.Proc, at placed) api.Errno {
	s := at.stmt
	row := stmtRows[s.Kind-1]
	if s.Kind == 19 {
		row.as = objectRowOf(s.Op).as
	}
	var l violations
	l.place(p, at, row.where)
	l.name(*v, s, row.name)
	want := types[row.exprs]
	if row.exprs == "variable" {
		want = v.variable(s.Name)
	}
	typ := 0
	for i, e := range s.Exprs {
		if e.Kind != 0 {
			typ = l.expr(*v, e, want, 3, i)
		}
		l.when(s.Kind == 23 && i == 0 && e.Value > 99, api.ErrRange, 3, i, 3)
	}
	if s.Kind == 1 {
		l.when(len(v.locals) == 20, api.ErrLimit, 4)
		v.declare(s.Name, typ)
	}
	if s.Kind == 14 && s.Name != "" {
		l.as(v, []string{s.Name}, "int", 4)
	}
	l.as(v, s.Names, row.as, 4)
	for i, c := range s.Cases {
		if c.Kind != 3 {
			l.object(*v, c.Name, 6, 5, i, 1)
		}
		if c.Kind == 1 {
			l.expr(*v, c.Expr, 1, 5, i, 2)
		}
		l.as(v, c.Names, "int bool", 5, i, 3)
	}
	return l.first()
}

// expectedErrors returns the errors of the statements of a procedure, with OK for those that have none, and its local variables.
func expectedErrors(src api.Source, p api.Proc) ([]api.Errno, []api.Binding) {
	v := env{src: src}
	for _, name := range p.Params {
		v.declare(name, 1)
	}
	var l []api.Errno
	for _, s := range listed(p.Body) {
		l = append(l, expectedStmt(&v, p, s))
	}
	slices.SortFunc(v.locals, func(a, b api.Binding) int { return cmp.Compare(a.Name, b.Name) })
	return l, v.locals
}

func expectedProblems(src api.Source) ([]api.Problem, api.Errno) {
	if err := syntax.Check(src); err != api.OK {
		return nil, err
	}
	var l []api.Problem
	for i := range src.Decls {
		l = append(l, api.Problem{Proc: -1, Stmt: i, Error: expectedDecl(src, i)})
	}
	if len(src.Procs) == 0 {
		l = append(l, api.Problem{Proc: -1, Stmt: -1, Error: api.ErrNotFound})
	}
	for i, p := range src.Procs {
		l = append(l, api.Problem{Proc: i, Stmt: -1, Error: expectedProc(src, i)})
		errors, _ := expectedErrors(src, p)
		for j, err := range errors {
			l = append(l, api.Problem{Proc: i, Stmt: j, Error: err})
		}
	}
	return slices.DeleteFunc(l, func(p api.Problem) bool { return p.Error == api.OK }), api.OK
}

func expectedCheck(src api.Source) api.Errno {
	l, err := expectedProblems(src)
	if len(l) > 0 {
		return l[0].Error
	}
	return err
}

func expectedIndex(src api.Source, proc int) api.Errno {
	err := expectedCheck(src)
	if err == api.OK && (proc < 0 || proc > len(src.Procs)-1) {
		return api.ErrRange
	}
	return err
}

func expectedLocals(src api.Source, proc int) ([]api.Binding, api.Errno) {
	if err := expectedIndex(src, proc); err != api.OK {
		return nil, err
	}
	_, l := expectedErrors(src, src.Procs[proc])
	return l, api.OK
}

// uses reports whether a procedure uses another one directly.
func uses(src api.Source, from, to int) bool {
	return slices.ContainsFunc(listed(src.Procs[from].Body), func(s placed) bool {
		return s.stmt.Kind >= 16 && s.stmt.Kind <= 18 && s.stmt.Name == src.Procs[to].Name
	})
}

// expectedWrites goes on adding the procedures that are used until there are no more.
func expectedWrites(src api.Source, proc int) ([]string, api.Errno) {
	if err := expectedIndex(src, proc); err != api.OK {
		return nil, err
	}
	used := map[int]bool{proc: true}
	for range src.Procs {
		for from := range src.Procs {
			for to := range src.Procs {
				used[to] = used[to] || used[from] && uses(src, from, to)
			}
		}
	}
	var l []string
	for _, d := range src.Decls {
		for i, p := range src.Procs {
			for _, s := range listed(p.Body) {
				isWrite := s.stmt.Kind == 2 || s.stmt.Kind == 21 || s.stmt.Kind == 22
				if used[i] && isWrite && s.stmt.Name == d.Name && !slices.Contains(l, d.Name) {
					l = append(l, d.Name)
				}
			}
		}
	}
	slices.Sort(l)
	return l, api.OK
}

func expectedCalls(src api.Source) ([]api.Edge, api.Errno) {
	if err := expectedCheck(src); err != api.OK {
		return nil, err
	}
	var l []api.Edge
	for from := range src.Procs {
		for to := range src.Procs {
			if uses(src, from, to) {
				l = append(l, api.Edge{From: from, To: to})
			}
		}
	}
	return l, api.OK
}
