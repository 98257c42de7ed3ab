package syntax_test

import (
	"fmt"
	"reflect"
	"slices"
	"strings"
	"testing"

	"nursery/api"
	"nursery/lexer"
	"nursery/syntax"
)

// brief returns the text of a value, cut if it is long.
func brief(x any) string {
	s := fmt.Sprintf("%+v", x)
	return s[:min(len(s), 400)]
}

// plain returns a source without the difference between nil and empty lists.
func plain(src api.Source) api.Source {
	return copied(src)
}

func isSame(a, b api.Source) bool {
	return reflect.DeepEqual(plain(a), plain(b))
}

func isNothing(src api.Source) bool {
	return len(src.Decls) == 0 && len(src.Procs) == 0
}

func checkCheck(t *testing.T, src api.Source) api.Errno {
	t.Helper()
	want := expectedCheck(src)
	if err := syntax.Check(src); err != want {
		t.Errorf("P11.1: Check(%s): %d instead of %d", brief(src), err, want)
	}
	return want
}

func checkSize(t *testing.T, src api.Source) int {
	t.Helper()
	want := expectedSize(src)
	if size := syntax.Size(src); size != want {
		t.Errorf("P11.1: Size(%s): %d instead of %d", brief(src), size, want)
	}
	return want
}

func checkPrint(t *testing.T, src api.Source) api.Errno {
	t.Helper()
	want, wantErr := expectedPrint(src)
	if s, err := syntax.Print(src); s != want || err != wantErr {
		t.Errorf("P11.1: Print(%s): %.300q, %d instead of %.300q, %d", brief(src), s, err, want, wantErr)
	}
	return wantErr
}

func checkStatements(t *testing.T, p api.Proc) api.Errno {
	t.Helper()
	want, _ := expectedStatements(p.Body, 1)
	wantErr := expectedCheck(api.Source{Procs: []api.Proc{p}})
	if wantErr != api.OK {
		want = nil
	}
	if l, err := syntax.Statements(p); err != wantErr || !isSame(with(l...), with(want...)) {
		t.Errorf("P11.1: Statements(%s): %s, %d instead of %d statements, %d", brief(p), brief(l), err, len(want), wantErr)
	}
	return wantErr
}

func checkParse(t *testing.T, s string) api.Errno {
	t.Helper()
	want, wantAt, wantErr := expectedParse(s)
	if src, at, err := syntax.Parse(s); !isSame(src, want) || at != wantAt || err != wantErr {
		t.Errorf("P11.1: Parse(%.300q): %s, %d, %d instead of %s, %d, %d", s, brief(src), at, err, brief(want), wantAt, wantErr)
	}
	return wantErr
}

// checkAll compares the results of all functions for a source that need not be valid with those of the models.
func checkAll(t *testing.T, src api.Source) api.Errno {
	t.Helper()
	err := checkCheck(t, src)
	checkSize(t, src)
	checkPrint(t, src)
	for _, p := range src.Procs {
		checkStatements(t, p)
	}
	if syntax.Equal(src, src) != (err == api.OK) {
		t.Errorf("P11.1: Equal(src, src) for the error %d of %s", err, brief(src))
	}
	return err
}

// TestModel compares the models with each other.
func TestModel(t *testing.T) {
	for _, src := range append(sources(1, 400), everything()) {
		s := expectedText(src)
		again, at, err := expectedParse(s)
		if len(s) > 4000 && err == api.ErrLimit {
			continue
		}
		if !isSame(again, src) || at != 0 || err != api.OK {
			t.Fatalf("%.300q: %s, %d, %d", s, brief(again), at, err)
		}
	}
}

func TestP11_1Example(t *testing.T) {
	s := "var x=0; task main(){lock m;x=x+1;if x>2{emit x;}else{}}"
	x := name("x")
	want := api.Source{
		Decls: []api.Decl{{Kind: api.VarDecl, Name: "x"}},
		Procs: []api.Proc{{Kind: api.TaskProc, Name: "main", Body: []api.Stmt{
			{Kind: api.ObjectStmt, Op: api.OpLock, Name: "m"},
			{Kind: api.AssignStmt, Name: "x", Exprs: []api.Expr{bin(api.PlusOp, x, num(1))}},
			{Kind: api.IfStmt, Exprs: []api.Expr{bin(api.GreaterOp, x, num(2))}, Body: []api.Stmt{emit(x)}},
		}}},
	}
	src, at, err := syntax.Parse(s)
	if !isSame(src, want) || at != 0 || err != api.OK {
		t.Errorf("P11.1: Parse: %s, %d, %d", brief(src), at, err)
	}
	text := "var x = 0;\ntask main() {\n\tlock m;\n\tx = x + 1;\n\tif x > 2 {\n\t\temit x;\n\t}\n}\n"
	if again, err := syntax.Print(src); again != text || err != api.OK {
		t.Errorf("P11.1: Print: %.300q, %d", again, err)
	}
	if size := syntax.Size(src); size != 4+3+3+1 {
		t.Errorf("P11.1: Size: %d", size)
	}
	if !syntax.Equal(src, want) || syntax.Check(src) != api.OK {
		t.Error("P11.1: Equal, or Check")
	}
}

// TestP11_1Empty has sources with nothing in them.
func TestP11_1Empty(t *testing.T) {
	for _, s := range []string{"", " ", "\n\t", "#", "# task f() {}", "#\n#"} {
		if src, at, err := syntax.Parse(s); !isNothing(src) || at != 0 || err != api.OK {
			t.Errorf("P11.1: Parse(%.300q): %s, %d, %d", s, brief(src), at, err)
		}
	}
	for _, src := range []api.Source{{}, {Decls: []api.Decl{}, Procs: []api.Proc{}}} {
		if s, err := syntax.Print(src); s != "" || err != api.OK || syntax.Size(src) != 0 || !syntax.Equal(src, api.Source{}) {
			t.Errorf("P11.1: Print: %.300q, %d", s, err)
		}
	}
	if l, err := syntax.Statements(task()); len(l) != 0 || err != api.OK {
		t.Errorf("P11.1: Statements: %v, %d", l, err)
	}
}

// TestP11_1Samples has each declaration, procedure and statement with its text.
func TestP11_1Samples(t *testing.T) {
	check := func(s string, src api.Source) {
		if again, at, err := syntax.Parse(s); !isSame(again, src) || at != 0 || err != api.OK {
			t.Errorf("P11.1: Parse(%.300q): %s, %d, %d", s, brief(again), at, err)
		}
		if text, err := syntax.Print(src); text != s || err != api.OK {
			t.Errorf("P11.1: Print: %.300q, %d instead of %.300q", text, err, s)
		}
		if err := checkAll(t, src); err != api.OK {
			t.Errorf("P11.1: Check of %.300q: %d", s, err)
		}
		checkParse(t, s)
	}
	for _, sample := range declSamples {
		check(sample.text+"\n", api.Source{Decls: []api.Decl{sample.decl}})
	}
	for _, sample := range procSamples {
		check(sample.text+"\n", api.Source{Procs: []api.Proc{sample.proc}})
	}
	for _, sample := range stmtSamples {
		check("task f() {\n\t"+strings.ReplaceAll(sample.text, "\n", "\n\t")+"\n}\n", with(sample.stmt))
		check("cleanup f() {\n\tmask {\n\t\t"+strings.ReplaceAll(sample.text, "\n", "\n\t\t")+"\n\t}\n}\n", api.Source{Procs: []api.Proc{{Kind: api.CleanupProc, Name: "f", Body: []api.Stmt{mask(sample.stmt)}}}})
	}
	src := everything()
	kinds := map[int]bool{}
	for _, p := range src.Procs {
		l, _ := expectedStatements(p.Body, 1)
		for _, s := range l {
			kinds[s.Kind] = true
			kinds[1000+s.Op] = true
		}
	}
	if len(kinds) != 24+1+24 {
		t.Errorf("%d kinds of statements and operations", len(kinds))
	}
	checkAll(t, src)
}

// TestP11_1Loose has texts that are not what Print yields.
func TestP11_1Loose(t *testing.T) {
	for s, want := range map[string]string{
		"var x=-0;":                                  "var x = 0;\n",
		"var x = - 5 ;":                              "var x = -5;\n",
		"atomic x=-1099511627776;":                   "atomic x = -1099511627776;\n",
		"task f()priority 0{}":                       "task f() {\n}\n",
		"task f ( ) priority 9 { }":                  "task f() priority 9 {\n}\n",
		"task f(a,b,a){}":                            "task f(a, b, a) {\n}\n",
		"task f(){if a{}else{}}":                     "task f() {\n\tif a {\n\t}\n}\n",
		"task f(){if a{}else{if b{}}}":               "task f() {\n\tif a {\n\t} else {\n\t\tif b {\n\t\t}\n\t}\n}\n",
		"func f(){return((1));}":                     "func f() {\n\treturn 1;\n}\n",
		"func f(){return(1)+(2);}":                   "func f() {\n\treturn 1 + 2;\n}\n",
		"func f(){x=(-1);}":                          "func f() {\n\tx = -1;\n}\n",
		"func f(){x=-1;}":                            "func f() {\n\tx = -1;\n}\n",
		"func f(){x=!y;}":                            "func f() {\n\tx = !y;\n}\n",
		"func f(){call g((1),(a)+b)as c;}":           "func f() {\n\tcall g(1, a + b) as c;\n}\n",
		"func f(){begin 0,(0);}":                     "func f() {\n\tbegin 0, 0;\n}\n",
		"func f(){scope deadline(1)budget(2)as r{}}": "func f() {\n\tscope deadline 1 budget 2 as r {\n\t}\n}\n",
		"func f(){}task f(){}func f(){}":             "func f() {\n}\ntask f() {\n}\nfunc f() {\n}\n",
		"future a;future a;":                         "future a;\nfuture a;\n",
	} {
		src, at, err := syntax.Parse(s)
		if text, _ := syntax.Print(src); text != want || at != 0 || err != api.OK {
			t.Errorf("P11.1: Parse(%.300q): %.300q, %d, %d", s, text, at, err)
		}
		checkParse(t, s)
	}
}

// TestP11_1CheckFields changes each field of a source with everything in it.
func TestP11_1CheckFields(t *testing.T) {
	t.Parallel()
	counts := map[api.Errno]int{}
	for _, src := range singles() {
		eachChange(src, func(other api.Source) { counts[checkCheck(t, other)]++ })
	}
	for err, few := range map[api.Errno]int{api.OK: 500, api.ErrArgument: 5000, api.ErrRange: 100, api.ErrLimit: 20, api.ErrName: 1000, api.ErrKind: 5000} {
		if counts[err] < few {
			t.Errorf("%d sources with the error %d", counts[err], err)
		}
	}
}

// TestP11_1CheckPairs changes pairs of fields of small sources, so that often two errors apply.
func TestP11_1CheckPairs(t *testing.T) {
	t.Parallel()
	next := randoms(3)
	counts := map[api.Errno]int{}
	m := maker{next}
	for range 10000 {
		src := api.Source{Procs: []api.Proc{task(m.stmt(1+next(24), 2))}}
		if next(4) == 0 {
			src = api.Source{Decls: []api.Decl{m.decl(), m.decl()}, Procs: []api.Proc{m.proc(1), m.proc(1)}}
		}
		for range 2 + next(2) {
			src = changed(next, src)
		}
		counts[checkAll(t, src)]++
	}
	for err, few := range map[api.Errno]int{api.OK: 50, api.ErrArgument: 500, api.ErrRange: 50, api.ErrLimit: 10, api.ErrName: 200, api.ErrKind: 500} {
		if counts[err] < few {
			t.Errorf("%d sources with the error %d", counts[err], err)
		}
	}
}

// TestP11_1CheckOrder has sources with two errors: the one that the chapter names first is returned.
func TestP11_1CheckOrder(t *testing.T) {
	bad := name("if")
	manyExprs := slices.Repeat([]api.Expr{num(1)}, 9)
	for i, c := range []struct {
		src  api.Source
		want api.Errno
	}{
		{api.Source{Decls: make([]api.Decl, 33)}, api.ErrLimit},
		{api.Source{Decls: make([]api.Decl, 32)}, api.ErrKind},
		{api.Source{Procs: make([]api.Proc, 33)}, api.ErrLimit},
		{api.Source{Procs: make([]api.Proc, 32)}, api.ErrKind},
		{api.Source{Decls: make([]api.Decl, 1), Procs: []api.Proc{task(nested(13, 0))}}, api.ErrDepth},
		{api.Source{Decls: make([]api.Decl, 1), Procs: []api.Proc{task(slices.Concat([]api.Stmt{nested(13, 0)}, yields(300))...)}}, api.ErrLimit},
		{api.Source{Decls: make([]api.Decl, 1), Procs: []api.Proc{{Kind: 4}, task(nested(13, 0))}}, api.ErrDepth},
		{api.Source{Decls: []api.Decl{{Kind: 1, Name: "if"}, {}}}, api.ErrName},
		{api.Source{Decls: []api.Decl{{Kind: 10, A: 1, Name: "if"}}}, api.ErrKind},
		{api.Source{Decls: []api.Decl{{Kind: 1, A: 1, Name: "if"}}}, api.ErrArgument},
		{api.Source{Decls: []api.Decl{{Kind: 4, A: -1, B: 2, Name: "if"}}}, api.ErrName},
		{api.Source{Decls: []api.Decl{{Kind: 4, A: -1, Name: "if", Name2: "x"}}}, api.ErrArgument},
		{api.Source{Decls: []api.Decl{{Kind: 101, A: maxInt + 1, B: 1, Name: "x"}}}, api.ErrArgument},
		{api.Source{Decls: []api.Decl{{Kind: 4, A: 0, B: 2, Name: "x"}}, Procs: make([]api.Proc, 1)}, api.ErrRange},
		{api.Source{Decls: []api.Decl{{Kind: 3, Name: "x"}}}, api.ErrName},
		{api.Source{Procs: []api.Proc{{Kind: 0, Name: "if", Priority: -1}}}, api.ErrKind},
		{api.Source{Procs: []api.Proc{{Kind: 1, Name: "if", Params: make([]string, 9)}}}, api.ErrName},
		{api.Source{Procs: []api.Proc{{Kind: 1, Name: "f", Params: make([]string, 9)}}}, api.ErrLimit},
		{api.Source{Procs: []api.Proc{{Kind: 1, Name: "f", Params: make([]string, 8), Priority: -1}}}, api.ErrName},
		{api.Source{Procs: []api.Proc{{Kind: 2, Name: "f", Priority: 1, Body: make([]api.Stmt, 1)}}}, api.ErrRange},
		{api.Source{Procs: []api.Proc{{Kind: 3, Name: "f", Priority: 9}}}, api.ErrRange},
		{api.Source{Procs: []api.Proc{task(emit(bad)), {}}}, api.ErrName},
		{with(api.Stmt{Kind: 25, Op: 1}), api.ErrKind},
		{with(api.Stmt{Kind: 19, Op: 67, Name: "x", Else: yields(1)}), api.ErrKind},
		{with(api.Stmt{Kind: 19, Op: 50, Name: "if", Else: yields(1)}), api.ErrArgument},
		{with(api.Stmt{Kind: 11, Op: 50, Cases: []api.Case{{Kind: 4}}}), api.ErrKind},
		{with(api.Stmt{Kind: 11, Cases: []api.Case{{Kind: 3}}}), api.ErrArgument},
		{with(choose(sends(num(1)), api.Case{Kind: 3, Name: "x"}, api.Case{})), api.ErrKind},
		{with(choose(sends(num(-1)), api.Case{Kind: 3, Name: "x"})), api.ErrArgument},
		{with(choose(sends(num(-1)), api.Case{Kind: 2, Name: "x"})), api.ErrArgument},
		{with(choose(sends(num(-1)), receives("if", "a"))), api.ErrName},
		{with(choose(otherwise(), otherwise(), receives("a", "if"))), api.ErrName},
		{with(choose(otherwise(), otherwise(), sends(num(-1)))), api.ErrExists},
		{with(choose(otherwise(), otherwise(api.Stmt{}))), api.ErrExists},
		{with(choose(otherwise(api.Stmt{}), sends(num(-1)))), api.ErrRange},
		{with(choose(sends(api.Expr{}))), api.ErrKind},
		{with(choose(sends(num(-1)), sends(bad))), api.ErrRange},
		{with(choose(sends(bad), sends(num(-1)))), api.ErrName},
		{with(choose(slices.Repeat([]api.Case{sends(bad)}, 7)...)), api.ErrArgument},
		{with(choose()), api.ErrArgument},
		{with(choose(otherwise(yield(), api.Stmt{}), sends(num(2), api.Stmt{Kind: 11, Op: 1}))), api.ErrKind},
		{with(api.Stmt{Kind: 16, Name: "if", Exprs: manyExprs}), api.ErrArgument},
		{with(api.Stmt{Kind: 16, Name: "if", Exprs: []api.Expr{num(-1)}}), api.ErrName},
		{with(api.Stmt{Kind: 17, Name: "f", Names: []string{"if"}, Exprs: []api.Expr{num(-1)}}), api.ErrName},
		{with(api.Stmt{Kind: 17, Name: "f", Names: []string{"a", "if"}}), api.ErrArgument},
		{with(api.Stmt{Kind: 17, Name: "", Names: []string{"a"}}), api.ErrName},
		{with(api.Stmt{Kind: 14, Name: "if", Exprs: []api.Expr{{}, {Kind: 9}}}), api.ErrName},
		{with(api.Stmt{Kind: 14, Exprs: []api.Expr{{}, {Kind: 9}}}), api.ErrKind},
		{with(api.Stmt{Kind: 14, Exprs: []api.Expr{{Name: "x"}, {}}}), api.ErrKind},
		{with(api.Stmt{Kind: 14, Exprs: []api.Expr{{}}}), api.ErrArgument},
		{with(api.Stmt{Kind: 14, Exprs: []api.Expr{{}, {}, {}}}), api.ErrArgument},
		{with(api.Stmt{Kind: 14, Exprs: []api.Expr{{}, {}}}), api.OK},
		{with(api.Stmt{Kind: 23, Exprs: []api.Expr{name("x"), num(-1)}}), api.ErrRange},
		{with(api.Stmt{Kind: 23, Exprs: []api.Expr{bad, num(1)}}), api.ErrName},
		{with(api.Stmt{Kind: 23, Exprs: []api.Expr{name("x"), num(1)}}), api.ErrArgument},
		{with(api.Stmt{Kind: 23, Exprs: []api.Expr{un(1, num(1)), num(1)}}, emit(num(-1))), api.ErrArgument},
		{with(emit(api.Expr{})), api.ErrKind},
		{with(emit(bin(api.PlusOp, bad, num(-1)))), api.ErrRange},
		{with(emit(negatives(13))), api.ErrDepth},
		{with(emit(sum(101))), api.ErrLimit},
		{with(emit(sum(299))), api.ErrLimit},
		{with(yield(), mask(emit(bad), api.Stmt{}), api.Stmt{Kind: 11, Op: 1}), api.ErrName},
		{with(mask(), emit(bad), mask(api.Stmt{})), api.ErrName},
	} {
		if err := syntax.Check(c.src); err != c.want {
			t.Errorf("P11.1: Check, case %d: %d instead of %d", i, err, c.want)
		}
		checkAll(t, c.src)
	}
}

// TestP11_1CheckNames puts names and others in all places for names.
func TestP11_1CheckNames(t *testing.T) {
	e := []api.Expr{num(1)}
	for _, s := range slices.Concat(names, noNames, words[1:]) {
		for _, src := range []api.Source{
			{Decls: []api.Decl{{Kind: api.MutexKind, Name: s}}},
			{Decls: []api.Decl{{Kind: api.CondKind, Name: "a", Name2: s}}},
			{Decls: []api.Decl{{Kind: api.MutexKind, Name: "a", Name2: s}}},
			{Procs: []api.Proc{{Kind: api.FuncProc, Name: s}}},
			{Procs: []api.Proc{{Kind: api.FuncProc, Name: "f", Params: []string{"a", s}}}},
			with(api.Stmt{Kind: api.LetStmt, Name: s, Exprs: e}),
			with(api.Stmt{Kind: api.AssignStmt, Name: s, Exprs: e}),
			with(api.Stmt{Kind: api.EmitStmt, Name: s, Exprs: e}),
			with(api.Stmt{Kind: api.ScopeStmt, Name: s, Exprs: []api.Expr{{}, {}}}),
			with(api.Stmt{Kind: api.DeferStmt, Name: s}),
			with(api.Stmt{Kind: api.DeferStmt, Name: "a", Names: []string{s}}),
			with(api.Stmt{Kind: api.CallStmt, Name: "a", Names: []string{s}}),
			with(api.Stmt{Kind: api.ObjectStmt, Op: api.OpLock, Name: s}),
			with(api.Stmt{Kind: api.ObjectStmt, Op: api.OpReceive, Name: "a", Names: []string{"b", s}}),
			with(api.Stmt{Kind: api.SwapStmt, Name: "a", Names: []string{s}, Exprs: []api.Expr{num(1), num(1)}}),
			with(choose(receives(s, "b"))),
			with(choose(receives("b", s))),
			with(choose(api.Case{Kind: api.SendCase, Name: s, Expr: num(1)})),
			with(choose(api.Case{Kind: api.DefaultCase, Name: s})),
			with(choose(sends(name(s)))),
			with(emit(name(s))),
			with(emit(bin(api.AndOp, name("x"), un(api.NotOp, name(s))))),
			with(api.Stmt{Kind: api.ScopeStmt, Exprs: []api.Expr{{}, name(s)}}),
			with(api.Stmt{Kind: api.BeginStmt, Exprs: []api.Expr{name(s), num(1)}}),
		} {
			checkAll(t, src)
		}
	}
}

// TestP11_1CheckNumbers puts numbers in all places for numbers.
func TestP11_1CheckNumbers(t *testing.T) {
	for _, x := range []int{least, -maxInt - 1, -maxInt, 1 - maxInt, -5, -1, 0, 1, 2, 8, 9, 10, 99, 100, 101, 1 << 32, maxInt - 1, maxInt, maxInt + 1, greatest} {
		for kind := -2; kind < 110; kind++ {
			for _, d := range []api.Decl{{Kind: kind, Name: "x", A: x}, {Kind: kind, Name: "x", B: x}, {Kind: kind, Name: "x", A: x, B: 1}, {Kind: kind, Name: "x", A: 3, B: x, Name2: "y"}} {
				checkAll(t, api.Source{Decls: []api.Decl{d}})
			}
		}
		for kind := -1; kind < 5; kind++ {
			checkAll(t, api.Source{Procs: []api.Proc{{Kind: kind, Name: "f", Priority: x}}})
		}
		checkAll(t, with(emit(num(x))))
	}
}

// TestP11_1CheckCounts has statements with other numbers of elements than they must have.
func TestP11_1CheckCounts(t *testing.T) {
	t.Parallel()
	counts := map[api.Errno]int{}
	for kind := -1; kind <= 26; kind++ {
		for op := 49; op <= 76; op++ {
			for _, s := range []string{"", "x"} {
				for n := range 10 {
					for m := range 4 {
						counts[checkCheck(t, with(api.Stmt{Kind: kind, Op: op % 76, Name: s, Names: slices.Repeat([]string{"y"}, m), Exprs: slices.Repeat([]api.Expr{num(1)}, n)}))]++
						if op == 76 {
							counts[checkCheck(t, with(api.Stmt{Kind: kind, Name: s, Names: slices.Repeat([]string{"y"}, m), Exprs: make([]api.Expr, n), Body: yields(m)}))]++
						}
					}
				}
			}
		}
		for n := range 9 {
			for _, c := range []api.Case{sends(num(1)), receives("a", "b"), otherwise()} {
				checkCheck(t, with(api.Stmt{Kind: kind, Cases: slices.Repeat([]api.Case{c}, n)}))
				checkCheck(t, with(api.Stmt{Kind: kind, Cases: append(slices.Repeat([]api.Case{receives("c", "d")}, n), c)}))
				c.Names = slices.Repeat([]string{"y"}, n)
				checkCheck(t, with(choose(c)))
			}
		}
	}
	if counts[api.OK] < 50 || counts[api.ErrArgument] < 1000 || counts[api.ErrKind] < 1000 {
		t.Errorf("%v statements", counts)
	}
	for kind := range 5 {
		for n := range 11 {
			checkCheck(t, api.Source{Procs: []api.Proc{{Kind: kind, Name: "f", Params: slices.Repeat([]string{"a"}, n)}}})
		}
	}
	for n := 30; n < 36; n++ {
		decls, procs := slices.Repeat([]api.Decl{{Kind: 1, Name: "a"}}, n), slices.Repeat([]api.Proc{task()}, n)
		for _, src := range []api.Source{{Decls: decls}, {Procs: procs}, {Decls: decls, Procs: procs}} {
			if err := checkAll(t, src); (err == api.OK) != (n <= 32) {
				t.Errorf("P11.1: %d declarations or procedures: %d", n, err)
			}
		}
	}
}

// TestP11_1Depth has statements of depths around the greatest one, in all places.
func TestP11_1Depth(t *testing.T) {
	for depth := 1; depth < 16; depth++ {
		for place := range 12 {
			for _, src := range []api.Source{with(nested(depth, place)), with(yield(), mask(), nested(depth, place)), {Procs: []api.Proc{task(), task(nested(depth, place)), task()}}} {
				want := api.OK
				if depth > 12 {
					want = api.ErrDepth
				}
				if err := checkAll(t, src); err != want {
					t.Errorf("P11.1: depth %d: %d", depth, err)
				}
			}
		}
	}
	for depth := 1; depth < 16; depth++ {
		checkAll(t, with(emit(negatives(depth))))
		checkAll(t, with(choose(sends(negatives(depth)))))
	}
}

// TestP11_1Size has sources of sizes around the greatest one, made up in different ways.
func TestP11_1Size(t *testing.T) {
	scopes := api.Stmt{Kind: api.ScopeStmt, Exprs: []api.Expr{{}, {}}}
	invalid := api.Stmt{Kind: 77, Exprs: []api.Expr{{}, sum(99), {}, {Kind: 0, Args: make([]api.Expr, 3)}}, Cases: []api.Case{{Expr: sum(33)}, {}}}
	for _, c := range []struct {
		body []api.Stmt
		size int
	}{
		{nil, 0},
		{yields(1), 1},
		{[]api.Stmt{emit(num(1))}, 2},
		{[]api.Stmt{emit(api.Expr{})}, 1},
		{[]api.Stmt{emit(api.Expr{Kind: 0, Name: "x"})}, 2},
		{[]api.Stmt{emit(un(1, api.Expr{}))}, 3},
		{[]api.Stmt{scopes}, 1},
		{[]api.Stmt{choose(otherwise(), sends(num(1), yields(2)...), receives("a", "b", emit(num(1))))}, 4 + 1 + 2 + 2},
		{[]api.Stmt{{Kind: api.IfStmt, Exprs: []api.Expr{name("a")}, Body: yields(3), Else: yields(4)}}, 9},
		{[]api.Stmt{{Kind: api.CallStmt, Name: "f", Names: []string{"a"}, Exprs: []api.Expr{sum(5), sum(7)}}}, 13},
		{[]api.Stmt{invalid}, 1 + 99 + 4 + 2 + 33},
		{yields(299), 299}, {yields(300), 300}, {yields(301), 301}, {yields(302), 301}, {yields(5000), 301},
		{[]api.Stmt{emit(sum(99)), emit(sum(99)), emit(sum(97))}, 298},
		{[]api.Stmt{emit(sum(99)), emit(sum(99)), emit(sum(97)), emit(num(1))}, 300},
		{[]api.Stmt{emit(sum(99)), emit(sum(99)), emit(sum(99))}, 300},
		{[]api.Stmt{emit(sum(99)), emit(sum(99)), emit(sum(99)), scopes}, 301},
		{[]api.Stmt{emit(sum(101))}, 102}, {[]api.Stmt{emit(sum(103))}, 104}, {[]api.Stmt{emit(sum(201))}, 202},
		{[]api.Stmt{emit(sum(299))}, 300}, {[]api.Stmt{emit(sum(301))}, 301}, {[]api.Stmt{emit(sum(2001))}, 301},
		{[]api.Stmt{{Kind: api.CallStmt, Exprs: []api.Expr{sum(299), sum(299)}}}, 301},
		{slices.Repeat([]api.Stmt{scopes}, 300), 300},
		{slices.Repeat([]api.Stmt{choose(otherwise())}, 150), 300},
		{slices.Repeat([]api.Stmt{choose(otherwise())}, 151), 301},
		{slices.Repeat([]api.Stmt{choose(sends(num(1), yields(2)...))}, 60), 300},
		{slices.Repeat([]api.Stmt{choose(sends(num(1), yields(2)...), otherwise())}, 60), 301},
		{[]api.Stmt{choose(make([]api.Case, 299)...)}, 300},
		{[]api.Stmt{choose(make([]api.Case, 300)...)}, 301},
		{[]api.Stmt{{Exprs: make([]api.Expr, 5000)}}, 1},
	} {
		src := with(c.body...)
		if size := checkSize(t, src); size != c.size {
			t.Errorf("P11.1: the size of %s is %d instead of %d", brief(c.body), size, c.size)
		}
		if err := checkAll(t, src); (err == api.ErrLimit) != (c.size > 300) && c.size < 100 {
			t.Errorf("P11.1: Check of a source of the size %d: %d", c.size, err)
		}
	}
	// The sizes of procedures are added.
	for n := 98; n < 103; n++ {
		src := api.Source{Procs: []api.Proc{task(yields(n)...), task(yields(100)...), task(yields(100)...)}}
		if err := checkAll(t, src); (err == api.OK) != (n <= 100) || syntax.Size(src) != 200+min(n, 101) {
			t.Errorf("P11.1: Check: %d", err)
		}
	}
	for _, src := range sources(4, 300) {
		checkSize(t, src)
	}
}

// TestP11_1Endless has values that contain themselves.
func TestP11_1Endless(t *testing.T) {
	e := un(api.NegOp, num(1))
	e.Args[0] = e
	both := bin(api.PlusOp, num(1), num(1))
	both.Args[0], both.Args[1] = both, both
	nothing := api.Expr{Args: make([]api.Expr, 2)}
	nothing.Args[0], nothing.Args[1] = nothing, nothing
	body := mask(yield())
	body.Body[0] = body
	orElse := api.Stmt{Kind: api.IfStmt, Else: make([]api.Stmt, 2)}
	orElse.Else[0], orElse.Else[1] = orElse, orElse
	cases := choose(sends(num(1), yields(1)...))
	cases.Cases[0].Body[0] = cases
	bare := api.Stmt{Body: make([]api.Stmt, 1), Cases: []api.Case{{Body: make([]api.Stmt, 3)}}}
	bare.Body[0], bare.Cases[0].Body[2] = bare, bare
	for i, s := range []api.Stmt{emit(e), emit(both), emit(nothing), choose(sends(e)), choose(api.Case{Expr: both}), {Exprs: []api.Expr{{}, nothing}}, {Kind: api.ScopeStmt, Exprs: []api.Expr{{}, e}}, body, orElse, cases, bare, mask(body, orElse)} {
		for _, src := range []api.Source{with(s), {Procs: []api.Proc{task(yield()), task(yield(), s)}}} {
			_, err := syntax.Print(src)
			l, stmtErr := syntax.Statements(src.Procs[len(src.Procs)-1])
			if syntax.Check(src) != api.ErrLimit || err != api.ErrLimit || stmtErr != api.ErrLimit || len(l) != 0 || syntax.Size(src) != 301 || syntax.Equal(src, src) || syntax.Equal(with(), src) || syntax.Equal(src, with()) {
				t.Errorf("P11.1: the endless statement %d", i)
			}
		}
	}
}

// prefixes are texts before which, between whose tokens, and behind which other tokens are put.
func prefixes() []string {
	var l []string
	for _, sample := range declSamples {
		l = append(l, sample.text)
	}
	for _, sample := range procSamples {
		l = append(l, sample.text)
	}
	for _, sample := range stmtSamples {
		l = append(l, "func g(){"+sample.text+"}")
	}
	return append(l, "", "task f(){}", "mutex m; mutex n; task f(){mask{yield;}}", "task f(){if a{}else{}yield;}", "task f(){select{default{}default{}}}", "task f(){}func g(a,b){return a;}cleanup h(){}", "task f(){x=-(a+b*1)<!c;}")
}

// alphabet are the texts of all tokens, of which those of names and numbers stand for all of them.
var alphabet = slices.Concat(strings.Fields("x 5 && || == != <= >= < > + - * / % ! = ( ) { } , ;"), strings.Split("acquire, add, any, arrive, as, assert, atomic, await, barrier, begin, broadcast, budget, call, cancel, channel, checkpoint, cleanup, close, complete, cond, deadline, default, defer, else, emit, end, every, fail, func, future, if, let, limiter, lock, mask, mutex, next, on, priority, publish, readlock, readunlock, receive, release, repeat, return, rwlock, scope, select, semaphore, send, signal, sleep, spawn, subscribe, swap, take, task, topic, tryacquire, trylock, unlock, unsubscribe, var, wait, while, writelock, writeunlock, yield", ", "))

// TestP11_1ParseNext has all tokens behind the beginnings of texts with everything in them.
func TestP11_1ParseNext(t *testing.T) {
	t.Parallel()
	counts := map[api.Errno]int{}
	seen := map[string]bool{}
	for _, s := range prefixes() {
		texts := textsOf(s)
		for i := range len(texts) + 1 {
			before := strings.Join(texts[:i], " ")
			if seen[before] {
				continue
			}
			seen[before] = true
			counts[checkParse(t, before)]++
			for _, token := range alphabet {
				counts[checkParse(t, before+" "+token)]++
			}
		}
	}
	if counts[api.OK] < 100 || counts[api.ErrSyntax] < 40000 {
		t.Errorf("%v texts", counts)
	}
}

// TestP11_1ParseReplace replaces, leaves out and adds tokens in texts with everything in them.
func TestP11_1ParseReplace(t *testing.T) {
	t.Parallel()
	next := randoms(5)
	counts := map[api.Errno]int{}
	for _, s := range prefixes() {
		texts := textsOf(s)
		for i := range texts {
			counts[checkParse(t, strings.Join(slices.Delete(slices.Clone(texts), i, i+1), " "))]++
			for range 8 {
				token := alphabet[next(len(alphabet))]
				if next(2) == 0 {
					token = alphabet[next(23)]
				}
				other := slices.Clone(texts)
				if next(2) == 0 {
					other = slices.Insert(other, i, token)
				} else {
					other[i] = token
				}
				counts[checkParse(t, strings.Join(other, " "))]++
			}
		}
	}
	if counts[api.OK] < 200 || counts[api.ErrSyntax] < 5000 {
		t.Errorf("%v texts", counts)
	}
}

func TestP11_1ParseErrors(t *testing.T) {
	deep := strings.Repeat("-", 12) + "x"
	wide := strings.Repeat("x+", 50) + "x"
	masks := strings.Repeat("mask{", 12)
	ends := strings.Repeat("}", 12)
	for _, c := range []struct {
		s   string
		at  int
		err api.Errno
	}{
		{strings.Repeat(" ", 4001), 0, api.ErrLimit},
		{"task f() { & }", 11, api.ErrSyntax},
		{"x; 01", 3, api.ErrSyntax},
		{"x; 1099511627777", 3, api.ErrRange},
		{"x; " + longName + "a", 3, api.ErrName},
		{"x", 0, api.ErrSyntax},
		{"5", 0, api.ErrSyntax},
		{";", 0, api.ErrSyntax},
		{"}", 0, api.ErrSyntax},
		{" yield;", 1, api.ErrSyntax},
		{"main() {}", 0, api.ErrSyntax},
		{"var", 3, api.ErrSyntax},
		{"var # x = 1;", 12, api.ErrSyntax},
		{"var 1", 4, api.ErrSyntax},
		{"var var = 1;", 4, api.ErrSyntax},
		{"var x;", 5, api.ErrSyntax},
		{"var x = y;", 8, api.ErrSyntax},
		{"var x = --1;", 9, api.ErrSyntax},
		{"var x = (1);", 8, api.ErrSyntax},
		{"var x = 1 + 1;", 10, api.ErrSyntax},
		{"var x == 1;", 6, api.ErrSyntax},
		{"var x = 1", 9, api.ErrSyntax},
		{"var x = 1; x = 1;", 11, api.ErrSyntax},
		{"cond c;", 6, api.ErrSyntax},
		{"cond c on;", 9, api.ErrSyntax},
		{"cond c on on;", 10, api.ErrSyntax},
		{"semaphore s;", 11, api.ErrSyntax},
		{"semaphore s -1;", 12, api.ErrSyntax},
		{"semaphore s 1 any any;", 18, api.ErrSyntax},
		{"barrier b 1 any;", 12, api.ErrSyntax},
		{"mutex m 1;", 8, api.ErrSyntax},
		{"limiter l 1;", 11, api.ErrSyntax},
		{"limiter l 1 every;", 17, api.ErrSyntax},
		{"limiter l 1 every -1;", 18, api.ErrSyntax},
		{"task f() {} var x = 1;", 12, api.ErrSyntax},
		{"task f {}", 7, api.ErrSyntax},
		{"task f(,) {}", 7, api.ErrSyntax},
		{"task f(a,) {}", 9, api.ErrSyntax},
		{"task f(a b) {}", 9, api.ErrSyntax},
		{"task f(1) {}", 7, api.ErrSyntax},
		{"task f(if) {}", 7, api.ErrSyntax},
		{"task f();", 8, api.ErrSyntax},
		{"task f() priority {}", 18, api.ErrSyntax},
		{"task f() priority -1 {}", 18, api.ErrSyntax},
		{"task f() priority 1 priority 1 {}", 20, api.ErrSyntax},
		{"func f() priority 1 {}", 9, api.ErrSyntax},
		{"cleanup f() priority 0 {}", 12, api.ErrSyntax},
		{"task f() {", 10, api.ErrSyntax},
		{"task f() {} }", 12, api.ErrSyntax},
		{"task f() {;}", 10, api.ErrSyntax},
		{"task f() {{}}", 10, api.ErrSyntax},
		{"task f() {1;}", 10, api.ErrSyntax},
		{"task f() {task g() {}}", 10, api.ErrSyntax},
		{"task f() {else {}}", 10, api.ErrSyntax},
		{"task f() {x;}", 11, api.ErrSyntax},
		{"task f() {x + 1;}", 12, api.ErrSyntax},
		{"task f() {f();}", 11, api.ErrSyntax},
		{"task f() {x = ;}", 14, api.ErrSyntax},
		{"task f() {x = 1}", 15, api.ErrSyntax},
		{"task f() {x = y = 1;}", 16, api.ErrSyntax},
		{"task f() {x = a < b < c;}", 20, api.ErrSyntax},
		{"task f() {x = (a;}", 16, api.ErrSyntax},
		{"task f() {x = a);}", 15, api.ErrSyntax},
		{"task f() {x = a b;}", 16, api.ErrSyntax},
		{"task f() {x = if;}", 14, api.ErrSyntax},
		{"task f() {let if = 1;}", 14, api.ErrSyntax},
		{"task f() {let x;}", 15, api.ErrSyntax},
		{"task f() {if {}}", 13, api.ErrSyntax},
		{"task f() {if a yield;}", 15, api.ErrSyntax},
		{"task f() {if a {} else if b {}}", 23, api.ErrSyntax},
		{"task f() {if a {} else {} else {}}", 26, api.ErrSyntax},
		{"task f() {while a {} else {}}", 21, api.ErrSyntax},
		{"task f() {if a {};}", 17, api.ErrSyntax},
		{"task f() {return;}", 16, api.ErrSyntax},
		{"task f() {yield 1;}", 16, api.ErrSyntax},
		{"task f() {scope budget 1 deadline 1 {}}", 25, api.ErrSyntax},
		{"task f() {scope as a budget 1 {}}", 21, api.ErrSyntax},
		{"task f() {scope deadline {}}", 25, api.ErrSyntax},
		{"task f() {scope deadline 1 deadline 1 {}}", 27, api.ErrSyntax},
		{"task f() {scope;}", 15, api.ErrSyntax},
		{"task f() {mask 1 {}}", 15, api.ErrSyntax},
		{"task f() {spawn f;}", 17, api.ErrSyntax},
		{"task f() {spawn f(,);}", 18, api.ErrSyntax},
		{"task f() {spawn f(1,);}", 20, api.ErrSyntax},
		{"task f() {spawn f(1 2);}", 20, api.ErrSyntax},
		{"task f() {spawn f() as x;}", 20, api.ErrSyntax},
		{"task f() {defer f() as x;}", 20, api.ErrSyntax},
		{"task f() {call f() as x, y;}", 23, api.ErrSyntax},
		{"task f() {call f() as 1;}", 22, api.ErrSyntax},
		{"task f() {begin x, 1;}", 16, api.ErrSyntax},
		{"task f() {begin -1, 1;}", 16, api.ErrSyntax},
		{"task f() {begin (1), 1;}", 16, api.ErrSyntax},
		{"task f() {begin 1 + 1, 1;}", 18, api.ErrSyntax},
		{"task f() {begin 1;}", 17, api.ErrSyntax},
		{"task f() {add x, 1;}", 18, api.ErrSyntax},
		{"task f() {add x as y;}", 16, api.ErrSyntax},
		{"task f() {add x, 1, 2 as y;}", 18, api.ErrSyntax},
		{"task f() {swap x, 1 as y;}", 20, api.ErrSyntax},
		{"task f() {lock m, 1;}", 16, api.ErrSyntax},
		{"task f() {lock m as x;}", 17, api.ErrSyntax},
		{"task f() {lock 1;}", 15, api.ErrSyntax},
		{"task f() {send c;}", 16, api.ErrSyntax},
		{"task f() {send c, 1 as x;}", 20, api.ErrSyntax},
		{"task f() {trylock m;}", 19, api.ErrSyntax},
		{"task f() {tryacquire s as x;}", 23, api.ErrSyntax},
		{"task f() {tryacquire s, 1;}", 25, api.ErrSyntax},
		{"task f() {receive c as x;}", 24, api.ErrSyntax},
		{"task f() {receive c as x, y, z;}", 27, api.ErrSyntax},
		{"task f() {receive c as x y;}", 25, api.ErrSyntax},
		{"task f() {send c, 1 {}}", 20, api.ErrSyntax},
		{"task f() {default {}}", 10, api.ErrSyntax},
		{"task f() {select {}}", 18, api.ErrSyntax},
		{"task f() {select {yield;}}", 18, api.ErrSyntax},
		{"task f() {select {send c, 1;}}", 27, api.ErrSyntax},
		{"task f() {select {receive c {}}}", 28, api.ErrSyntax},
		{"task f() {select {default {} yield;}}", 29, api.ErrSyntax},
		{"task f() {select x {}}", 17, api.ErrSyntax},
		{"task f() {x = " + deep + ";}", 0, api.ErrDepth},
		{"task f() {x = " + wide + ";}", 0, api.ErrLimit},
		{"task f() {x = " + deep + " x", 0, api.ErrDepth},
		{"task f() {x = " + wide + ")", 0, api.ErrLimit},
		{"task f() {x = " + deep + " +;", 29, api.ErrSyntax},
		{"task f() {x = " + wide + "+;", 116, api.ErrSyntax},
		{"task f() {x = (" + deep + ";", 28, api.ErrSyntax},
		{"task f() {x x = " + deep, 12, api.ErrSyntax},
		{"task f() {x = " + deep + "; x = " + wide, 0, api.ErrDepth},
		{"task f() {x = " + wide + "; x = " + deep, 0, api.ErrLimit},
		{"task f() {spawn f(1, " + deep + " as", 0, api.ErrDepth},
		{"task f() {select { send c, " + wide + " as", 0, api.ErrLimit},
		{"task f() {scope budget " + wide + " as if", 0, api.ErrLimit},
		{"task f() {x = a < " + deep[2:] + " < " + deep + ";", 30, api.ErrSyntax},
		{"task f() {" + masks[:55] + "x = 1;" + ends[:11] + "}", 0, api.OK},
		{"task f() {" + masks + "x = 1;" + ends + "}", 0, api.ErrDepth},
		{"task f() {" + masks + "x = 1;" + ends, 88, api.ErrSyntax},
		{"task f() {" + masks + "x = " + wide + ";" + ends + "}", 0, api.ErrLimit},
		{"task f() {" + strings.Repeat("yield;", 300) + "}", 0, api.OK},
		{"task f() {" + strings.Repeat("yield;", 301) + "}", 0, api.ErrLimit},
		{"task f() {" + strings.Repeat("yield;", 301) + masks + ends + "}", 0, api.ErrLimit},
		{"task f() {" + strings.Repeat("mask{", 790), 3960, api.ErrSyntax},
		{"task f() {" + strings.Repeat("mask{", 665) + strings.Repeat("}", 665), 4000, api.ErrSyntax},
		{"task f() {" + strings.Repeat("mask{", 664) + strings.Repeat("}", 665), 0, api.ErrLimit},
		{"task f(a,b,c,d,e,f,g,h) {}", 0, api.OK},
		{"task f(a,b,c,d,e,f,g,h,i) {}", 0, api.ErrLimit},
		{"task f() priority 10 {}", 0, api.ErrRange},
		{"task f() {call f(1,2,3,4,5,6,7,8) as x;}", 0, api.OK},
		{"task f() {call f(1,2,3,4,5,6,7,8,9);}", 0, api.ErrArgument},
		{"task f() {select {default {} default {}}}", 0, api.ErrExists},
		{"task f() {select {" + strings.Repeat("send c, 1 {}", 6) + "}}", 0, api.OK},
		{"task f() {select {" + strings.Repeat("send c, 1 {}", 7) + "}}", 0, api.ErrArgument},
		{strings.Repeat("mutex m;", 32), 0, api.OK},
		{strings.Repeat("mutex m;", 33), 0, api.ErrLimit},
		{strings.Repeat("task f(){}", 32), 0, api.OK},
		{strings.Repeat("task f(){}", 33), 0, api.ErrLimit},
		{strings.Repeat("mutex m;", 33) + "task f()", 272, api.ErrSyntax},
	} {
		if src, at, err := syntax.Parse(c.s); isNothing(src) != (c.err != api.OK) || at != c.at || err != c.err {
			t.Errorf("P11.1: Parse(%.300q): %s, %d, %d instead of %d, %d", c.s, brief(src), at, err, c.at, c.err)
		}
		checkParse(t, c.s)
	}
}

// TestP11_1ParseRandom has the texts of random sources, with and without changes.
func TestP11_1ParseRandom(t *testing.T) {
	t.Parallel()
	next := randoms(6)
	counts := map[api.Errno]int{}
	for _, src := range sources(7, 500) {
		texts := loose(next, src)
		counts[checkParse(t, laidOut(next, texts))]++
		for range 1 + next(2) {
			i := next(len(texts) + 1)
			more := []string{alphabet[next(23)], alphabet[next(len(alphabet))]}[:next(3)]
			texts = slices.Concat(texts[:i], more, texts[min(len(texts), i+next(3)):])
		}
		s := laidOut(next, texts)
		counts[checkParse(t, s)]++
		i := next(len(s) + 1)
		counts[checkParse(t, s[:i]+[]string{"\x00", "0", "a", "_", "&", "=", "#", "\n", longName, "99999999", "(", ";"}[next(12)]+s[min(len(s), i+next(2)):])]++
	}
	for _, err := range []api.Errno{api.OK, api.ErrSyntax, api.ErrName, api.ErrLimit} {
		if counts[err] < 10 {
			t.Errorf("%d texts with the error %d", counts[err], err)
		}
	}
}

// TestP11_1PrintLimit has sources whose texts have about as many bytes as possible.
func TestP11_1PrintLimit(t *testing.T) {
	counts := map[api.Errno]int{}
	let := func(n int) api.Stmt {
		return api.Stmt{Kind: api.LetStmt, Name: longName[:n], Exprs: []api.Expr{num(0)}}
	}
	for n := 1; n <= 30; n++ {
		src := with(append(slices.Repeat([]api.Stmt{let(30)}, 96), let(15), let(n))...)
		size := 13 + 96*41 + 26 + 11 + n
		want := api.OK
		if size > 4000 {
			want = api.ErrLimit
		}
		if s, err := syntax.Print(src); err != want || err == api.OK && len(s) != size {
			t.Errorf("P11.1: Print: %d bytes, %d instead of %d, %d", len(s), err, size, want)
		}
		counts[checkPrint(t, src)]++
	}
	for _, src := range sources(8, 400) {
		counts[checkPrint(t, src)]++
	}
	if counts[api.OK] < 100 || counts[api.ErrLimit] < 10 {
		t.Errorf("%v sources", counts)
	}
}

// TestP11_1Equal has pairs of sources of which one results from changing a field of the other one.
func TestP11_1Equal(t *testing.T) {
	t.Parallel()
	check := func(a, b api.Source) bool {
		want := expectedCheck(a) == api.OK && expectedCheck(b) == api.OK && isSame(a, b)
		if syntax.Equal(a, b) != want || syntax.Equal(b, a) != want {
			t.Errorf("P11.1: Equal(%s, %s) is not %t", brief(a), brief(b), want)
		}
		return want
	}
	equal := 0
	for _, src := range singles() {
		eachChange(src, func(other api.Source) {
			if check(src, other) {
				equal++
			}
		})
	}
	l := sources(9, 60)
	for _, a := range l {
		check(a, copied(a))
		for _, b := range l {
			if check(a, b) {
				equal++
			}
		}
	}
	if equal < 100 {
		t.Errorf("%d equal sources", equal)
	}
	for _, src := range []api.Source{{Decls: make([]api.Decl, 1)}, {Procs: make([]api.Proc, 1)}, with(emit(num(-1))), with(nested(13, 0)), with(yields(301)...)} {
		check(src, src)
		check(src, with())
	}
}

func TestP11_1Statements(t *testing.T) {
	counts := map[api.Errno]int{}
	for _, src := range append(sources(10, 300), everything()) {
		for _, p := range src.Procs {
			counts[checkStatements(t, p)]++
		}
	}
	for _, p := range []api.Proc{{}, {Kind: 1}, {Kind: 4, Name: "f"}, {Kind: 1, Name: "if"}, {Kind: 2, Name: "f", Priority: 3}, task(nested(13, 0)), task(emit(num(-1))), task(yields(301)...), task(yields(300)...)} {
		counts[checkStatements(t, p)]++
	}
	if counts[api.OK] < 300 || len(counts) < 6 {
		t.Errorf("%v procedures", counts)
	}
}

// TestP11_1Memory makes sure that arguments are not changed, and that no results share memory with anything else.
func TestP11_1Memory(t *testing.T) {
	for _, src := range append(sources(11, 60), everything()) {
		before := copied(src)
		s, _ := syntax.Print(src)
		syntax.Check(src)
		syntax.Equal(src, src)
		syntax.Size(src)
		seen := map[uintptr]bool{}
		var used []any // so that no memory is used again
		use := func(x any) {
			used = append(used, x)
			for _, v := range listsOf(reflect.ValueOf(x)) {
				if seen[v.Pointer()] {
					t.Fatalf("P11.1: results for %.300q share memory", s)
				}
				seen[v.Pointer()] = true
			}
		}
		use(&src)
		for _, p := range src.Procs {
			for range 2 {
				l, _ := syntax.Statements(p)
				use(&l)
				for i := range l {
					spoil(reflect.ValueOf(&l[i]).Elem())
				}
			}
		}
		for range 2 {
			again, _, err := syntax.Parse(s)
			use(&again)
			if err == api.OK && s != "" && !isSame(again, before) {
				t.Fatalf("P11.1: Parse(%.300q): %s", s, brief(again))
			}
			spoil(reflect.ValueOf(&again).Elem())
		}
		if !isSame(src, before) {
			t.Errorf("P11.1: %s was changed to %s", brief(before), brief(src))
		}
	}
}

// TestP11_1Keywords makes sure that the alphabet of the tests has all reserved names.
func TestP11_1Keywords(t *testing.T) {
	n := 0
	for _, s := range alphabet {
		if lexer.Keyword(s) {
			n++
		}
	}
	if n != 69 || len(alphabet) != 23+69 {
		t.Errorf("%d reserved names, %d tokens", n, len(alphabet))
	}
}
