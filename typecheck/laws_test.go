package typecheck_test

import (
	"cmp"
	"reflect"
	"slices"
	"testing"

	"nursery/api"
	"nursery/expr"
	"nursery/syntax"
	"nursery/typecheck"
)

// flawless returns sources without problems.
func flawless(t *testing.T, seed, n int) []api.Source {
	t.Helper()
	l := append(sources(seed, n, 0), parsed(t, whole), parsed(t, severalProcedures))
	for _, src := range l {
		if problems, err := typecheck.Problems(src); len(problems) > 0 || err != api.OK {
			t.Fatalf("%s, %d\n%s", listing(problems), err, text(src))
		}
	}
	return l
}

func copied(src api.Source) api.Source {
	return copyOf(reflect.ValueOf(src)).Interface().(api.Source)
}

// statements returns pointers to the statements of a procedure in preorder.
func statements(body []api.Stmt) []*api.Stmt {
	var l []*api.Stmt
	for i := range body {
		s := &body[i]
		l = append(append(append(l, s), statements(s.Body)...), statements(s.Else)...)
		for _, c := range s.Cases {
			l = append(l, statements(c.Body)...)
		}
	}
	return l
}

// known returns the bindings of the local variables of a procedure, and of the declared variables.
func known(t *testing.T, src api.Source, proc int) []api.Binding {
	t.Helper()
	l, err := typecheck.Locals(src, proc)
	if err != api.OK {
		t.Fatalf("Locals: %d", err)
	}
	for _, d := range src.Decls {
		if d.Kind == api.VarDecl || d.Kind == api.AtomicDecl {
			l = append(l, api.Binding{Name: d.Name, Type: api.IntType})
		}
	}
	slices.SortFunc(l, func(a, b api.Binding) int { return cmp.Compare(a.Name, b.Name) })
	return l
}

// required returns the type that the expressions of a statement must have.
func required(s api.Stmt, bindings []api.Binding) int {
	switch s.Kind {
	case api.IfStmt, api.WhileStmt, api.AssertStmt:
		return api.BoolType
	case api.LetStmt, api.AssignStmt:
		typ, _ := expr.Type(name(s.Name), bindings)
		return typ
	}
	return api.IntType
}

func TestP12_2Types(t *testing.T) {
	t.Parallel()
	found := map[int]int{}
	for _, src := range flawless(t, 51, 600) {
		for i, p := range src.Procs {
			bindings := known(t, src, i)
			for _, s := range statements(p.Body) {
				l := s.Exprs
				for _, c := range s.Cases {
					l = append(slices.Clip(l), c.Expr)
				}
				for _, e := range l {
					if e.Kind == 0 {
						continue
					}
					found[s.Kind]++
					if typ, err := expr.Type(e, bindings); typ != required(*s, bindings) || err != api.OK {
						t.Errorf("P12.2: %v has the type %d, %d in %v\n%s", e, typ, err, *s, text(src))
					}
				}
			}
		}
	}
	if len(found) < 17 {
		t.Errorf("statements of %d kinds", len(found))
	}
}

// hasProblem reports whether a source has a problem with a statement.
func hasProblem(src api.Source, proc, stmt int, want api.Errno) bool {
	l, _ := typecheck.Problems(src)
	return slices.Contains(l, api.Problem{Proc: proc, Stmt: stmt, Error: want})
}

// TestP12_2OtherTypes puts expressions of the other type in their places.
func TestP12_2OtherTypes(t *testing.T) {
	t.Parallel()
	others := map[int]api.Expr{api.IntType: bin(api.LessOp, num(1), num(2)), api.BoolType: num(3)}
	for _, src := range flawless(t, 52, 60) {
		src = copied(src)
		for i, p := range src.Procs {
			bindings := known(t, src, i)
			for j, s := range statements(p.Body) {
				other := others[required(*s, bindings)]
				replace := func(e *api.Expr) {
					before := *e
					*e = other
					if before.Kind != 0 && s.Kind != api.LetStmt && syntax.Check(src) == api.OK && !hasProblem(src, i, j, api.ErrType) {
						t.Errorf("P12.2: no problem with the statement %d of the procedure %d\n%s", j, i, text(src))
					}
					*e = before
				}
				for k := range s.Exprs {
					replace(&s.Exprs[k])
				}
				for k := range s.Cases {
					replace(&s.Cases[k].Expr)
				}
			}
		}
	}
}

// kindsOfUses are the kinds of the procedures that statements use, by their kinds.
var kindsOfUses = map[int]int{api.SpawnStmt: api.TaskProc, api.CallStmt: api.FuncProc, api.DeferStmt: api.CleanupProc}

// nameKinds returns which kinds of declarations the Name of a statement can have.
func nameKinds(s api.Stmt) []int {
	switch s.Kind {
	case api.ObjectStmt:
		return []int{objectRowOf(s.Op).kind}
	case api.AddStmt, api.SwapStmt:
		return []int{api.AtomicDecl}
	}
	return nil
}

func TestP12_3Uses(t *testing.T) {
	t.Parallel()
	found := map[int]int{}
	for _, src := range flawless(t, 53, 800) {
		kinds, procs := map[string]int{}, map[string]api.Proc{}
		for _, d := range src.Decls {
			kinds[d.Name] = d.Kind
		}
		for _, p := range src.Procs {
			procs[p.Name] = p
		}
		if len(kinds) != len(src.Decls) || len(procs) != len(src.Procs) {
			t.Errorf("P12.3: names are not unique\n%s", text(src))
		}
		for _, p := range src.Procs {
			for _, s := range statements(p.Body) {
				used, isUsed := procs[s.Name]
				if kind, isUse := kindsOfUses[s.Kind]; isUse && (!isUsed || used.Kind != kind || len(used.Params) != len(s.Exprs)) {
					t.Errorf("P12.3: %v\n%s", *s, text(src))
				}
				if l := nameKinds(*s); l != nil && !slices.Contains(l, kinds[s.Name]) {
					t.Errorf("P12.3: %v\n%s", *s, text(src))
				}
				for _, c := range s.Cases {
					if c.Kind != api.DefaultCase && kinds[c.Name] != api.ChannelKind {
						t.Errorf("P12.3: %v\n%s", *s, text(src))
					}
				}
				found[s.Kind*100+s.Op]++
			}
		}
	}
	for _, kind := range []int{1600, 1700, 1800, 2000, 2100, 2200} {
		if found[kind] < 20 {
			t.Errorf("%d statements of the kind %d", found[kind], kind/100)
		}
	}
	for _, row := range objectRows {
		if found[1900+row.op] < 5 {
			t.Errorf("%d statements %s", found[1900+row.op], row.word)
		}
	}
}

// TestP12_3Changed uses something else, or something that does not exist, or with another number of arguments.
func TestP12_3Changed(t *testing.T) {
	t.Parallel()
	for _, src := range flawless(t, 54, 60) {
		src = copied(src)
		for i, p := range src.Procs {
			for j, s := range statements(p.Body) {
				before := *s
				_, isUse := kindsOfUses[s.Kind]
				if !isUse && nameKinds(*s) == nil {
					continue
				}
				s.Name = "nobody"
				if !hasProblem(src, i, j, api.ErrNotFound) {
					t.Errorf("P12.3: no problem with the statement %d of the procedure %d\n%s", j, i, text(src))
				}
				s.Name = before.Name
				if isUse {
					s.Exprs = append(slices.Clip(s.Exprs), num(1))
					if len(s.Exprs) <= 8 && syntax.Check(src) == api.OK && !hasProblem(src, i, j, api.ErrMismatch) {
						t.Errorf("P12.3: no problem with the statement %d of the procedure %d\n%s", j, i, text(src))
					}
				}
				*s = before
			}
		}
	}
}

// ownWrites returns what the statements of a procedure change.
func ownWrites(src api.Source, p api.Proc) []string {
	var l []string
	for _, s := range statements(p.Body) {
		isDeclared := slices.ContainsFunc(src.Decls, func(d api.Decl) bool { return d.Name == s.Name })
		if isDeclared && slices.Contains([]int{api.AssignStmt, api.AddStmt, api.SwapStmt}, s.Kind) {
			l = append(l, s.Name)
		}
	}
	return l
}

func TestP12_4Writes(t *testing.T) {
	t.Parallel()
	found := 0
	for _, src := range flawless(t, 55, 800) {
		edges, _ := typecheck.Calls(src)
		for i, p := range src.Procs {
			want := ownWrites(src, p)
			for _, e := range edges {
				if e.From == i {
					more, _ := typecheck.Writes(src, e.To)
					want = append(want, more...)
				}
			}
			slices.Sort(want)
			want = slices.Compact(want)
			l, err := typecheck.Writes(src, i)
			if !slices.Equal(l, want) || err != api.OK {
				t.Errorf("P12.4: Writes(%d): %v, %d instead of %v\n%s", i, l, err, want, text(src))
			}
			if len(l) > len(ownWrites(src, p)) {
				found++
			}
		}
	}
	if found < 50 {
		t.Errorf("%d procedures change something by others only", found)
	}
}

// TestP12_4Chain has procedures that use each other in a chain, or in a circle, in each of the three ways.
func TestP12_4Chain(t *testing.T) {
	for _, row := range []struct{ text, want string }{
		{"task main() { spawn a(); } task a() { call b(); } func b() { defer c(); } cleanup c() { x = 1; }", "x,x,x,x"},
		{"task main() { spawn a(); y = 1; } task a() { spawn b(); } task b() { spawn a(); x = 1; }", "xy,x,x"},
		{"task main() { call b(); } func a() { call a(); x = 1; } func b() { let i = 1; i = 2; y = 1; y = 2; }", "y,x,y"},
		{"task main() { emit x; } cleanup c() { x = y; }", ",x"},
		{"task main() { select { default { while 1 < 2 { mask { if 1 < 2 {} else { spawn a(); } } } } } } task a() { add z, 1 as i; swap t, 1, 2 as e; } func b() { spawn a(); add z, 1 as i; }", "tz,tz,tz"},
		{"task main() { spawn c(); } task b() { spawn main(); } task c() { spawn d(); } task d() { spawn e(); x = 1; } task e() { spawn b(); y = 1; } task f() {}", "xy,xy,xy,xy,xy,"},
	} {
		src := parsed(t, "var y = 0; atomic z = 0; atomic t = 1; var x = 0;"+row.text)
		got := ""
		for i := range src.Procs {
			l, err := typecheck.Writes(src, i)
			if err != api.OK {
				t.Errorf("P12.4: %d\n%s", err, text(src))
			}
			if i > 0 {
				got += ","
			}
			for _, s := range l {
				got += s
			}
		}
		if got != row.want {
			t.Errorf("P12.4: %s instead of %s\n%s", got, row.want, text(src))
		}
	}
}

func TestP12_5Extension(t *testing.T) {
	t.Parallel()
	found := 0
	for _, src := range flawless(t, 56, 400) {
		var l []api.Source
		for kind := api.TaskProc; kind <= api.CleanupProc; kind++ {
			l = append(l, api.Source{Decls: src.Decls, Procs: append(slices.Clip(src.Procs), api.Proc{Kind: kind, Name: "new"})})
		}
		for _, kind := range []int{api.VarDecl, api.AtomicDecl} {
			l = append(l, api.Source{Decls: append(slices.Clip(src.Decls), api.Decl{Kind: kind, Name: "new", A: 1}), Procs: src.Procs})
		}
		variables := 0
		for _, d := range src.Decls {
			if d.Kind > 100 {
				variables++
			}
		}
		for i, other := range l {
			if i >= 3 && (variables == 16 || len(src.Decls) == 32) {
				continue
			}
			found++
			if problems, err := typecheck.Problems(other); len(problems) > 0 || err != api.OK {
				t.Errorf("P12.5: %s, %d\n%s", listing(problems), err, text(other))
			}
			for proc := range src.Procs {
				before, _ := typecheck.Locals(src, proc)
				after, err := typecheck.Locals(other, proc)
				if !slices.Equal(before, after) || err != api.OK {
					t.Errorf("P12.5: Locals(%d): %v, %d instead of %v\n%s", proc, after, err, before, text(other))
				}
			}
		}
	}
	if found < 1000 {
		t.Errorf("%d sources", found)
	}
}

// forbidden are the kinds of statements that clean-up procedures do not have.
var forbidden = []int{api.SpawnStmt, api.CallStmt, api.DeferStmt, api.MaskStmt, api.ScopeStmt}

func TestP12_6CleanUp(t *testing.T) {
	t.Parallel()
	found := 0
	for _, src := range flawless(t, 57, 800) {
		for i, p := range src.Procs {
			if p.Kind != api.CleanupProc {
				continue
			}
			for _, s := range statements(p.Body) {
				found++
				if slices.Contains(forbidden, s.Kind) {
					t.Errorf("P12.6: %v\n%s", *s, text(src))
				}
			}
			// A procedure with such a statement has a problem as a clean-up procedure.
			for _, other := range src.Procs {
				changed := copied(src)
				changed.Procs[i].Body = other.Body
				has := slices.ContainsFunc(statements(other.Body), func(s *api.Stmt) bool { return slices.Contains(forbidden, s.Kind) })
				if has && syntax.Check(changed) == api.OK && typecheck.Check(changed) == api.OK {
					t.Errorf("P12.6: no problem\n%s", text(changed))
				}
			}
		}
	}
	if found < 500 {
		t.Errorf("%d statements", found)
	}
}

// rank returns where what a problem names stands among all that can have one.
func rank(p api.Problem) []int {
	switch {
	case p.Proc < 0 && p.Stmt >= 0:
		return []int{0, p.Stmt}
	case p.Proc < 0:
		return []int{1}
	}
	return []int{2, p.Proc, p.Stmt}
}

func TestP12_7Order(t *testing.T) {
	t.Parallel()
	found := 0
	for _, src := range slices.Concat(sources(58, 600, 5), sources(59, 600, 15)) {
		l, err := typecheck.Problems(src)
		if err != api.OK || typecheck.Check(src) != append(l, api.Problem{})[0].Error {
			t.Errorf("P12.7: Problems: %d, Check: %d\n%s", err, typecheck.Check(src), text(src))
		}
		found += len(l)
		for i, p := range l {
			if i > 0 && slices.Compare(rank(l[i-1]), rank(p)) >= 0 || p.Error == api.OK {
				t.Errorf("P12.7: %s\n%s", listing(l), text(src))
			}
			exists := p.Proc == -1 && p.Stmt >= -1 && p.Stmt < len(src.Decls) && (p.Stmt >= 0 || len(src.Procs) == 0)
			if p.Proc >= 0 && p.Proc < len(src.Procs) {
				exists = p.Stmt >= -1 && p.Stmt < len(statements(src.Procs[p.Proc].Body))
			}
			if !exists {
				t.Errorf("P12.7: there is no %s\n%s", listing(l[i:i+1]), text(src))
			}
		}
	}
	if found < 3000 {
		t.Errorf("%d problems", found)
	}
}
