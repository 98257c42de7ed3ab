package syntax_test

import (
	"reflect"
	"slices"

	"nursery/api"
)

// copied returns a source in new memory, with nil in place of empty lists.
func copied(src api.Source) api.Source {
	return copyOf(reflect.ValueOf(src)).Interface().(api.Source)
}

func copyOf(v reflect.Value) reflect.Value {
	result := reflect.New(v.Type()).Elem()
	switch v.Kind() {
	case reflect.Struct:
		for i := range v.NumField() {
			result.Field(i).Set(copyOf(v.Field(i)))
		}
	case reflect.Slice:
		for i := range v.Len() {
			result = reflect.Append(result, copyOf(v.Index(i)))
		}
	default:
		result.Set(v)
	}
	return result
}

// fieldsOf returns the numbers, the strings and the lists in a source, which can be changed.
func fieldsOf(src *api.Source) []reflect.Value {
	return fieldsIn(reflect.ValueOf(src).Elem())
}

func fieldsIn(v reflect.Value) []reflect.Value {
	var l []reflect.Value
	if v.Kind() == reflect.Struct {
		for i := range v.NumField() {
			l = append(l, fieldsIn(v.Field(i))...)
		}
		return l
	}
	l = append(l, v)
	if v.Kind() == reflect.Slice {
		for i := range v.Len() {
			l = append(l, fieldsIn(v.Index(i))...)
		}
	}
	return l
}

var someNumbers = []int{least, -maxInt - 1, -maxInt, -1, 0, 1, 2, 3, 4, 5, 6, 7, 8, 9, 10, 13, 14, 15, 16, 17, 18, 19, 20, 21, 22, 23, 24, 25, 50, 51, 60, 61, 63, 64, 65, 66, 67, 69, 72, 74, 75, 100, 101, 102, 103, maxInt, maxInt + 1, greatest}

// instead returns values that a field can have instead.
func instead(field reflect.Value) []reflect.Value {
	var l []reflect.Value
	switch field.Kind() {
	case reflect.Int:
		for _, x := range someNumbers {
			l = append(l, reflect.ValueOf(x))
		}
	case reflect.String:
		for _, s := range slices.Concat(noNames, names) {
			l = append(l, reflect.ValueOf(s))
		}
	case reflect.Slice:
		n := field.Len()
		l = append(l, reflect.Zero(field.Type()), reflect.MakeSlice(field.Type(), 0, 1), field.Slice(0, max(0, n-1)), field.Slice(min(1, n), n))
		more := []reflect.Value{reflect.Zero(field.Type().Elem())}
		if n > 0 {
			more = append(more, field.Index(0), field.Index(n-1))
		}
		for _, x := range more {
			for _, n := range []int{1, 2, 5, 9, 33} {
				longer := copyOf(field)
				for range n {
					longer = reflect.Append(longer, copyOf(x))
				}
				l = append(l, longer)
			}
		}
	}
	return l
}

// eachChange calls a function with all sources that result from changing one field of a source.
func eachChange(src api.Source, f func(api.Source)) {
	for i, field := range fieldsOf(&src) {
		for _, value := range instead(field) {
			other := copied(src)
			fieldsOf(&other)[i].Set(value)
			f(other)
		}
	}
}

// changed returns a source of which a field has another value.
func changed(next func(int) int, src api.Source) api.Source {
	src = copied(src)
	fields := fieldsOf(&src)
	field := fields[next(len(fields))]
	values := instead(field)
	field.Set(values[next(len(values))])
	return src
}

// listsOf returns the lists with room for elements that can be reached from a value.
func listsOf(v reflect.Value) []reflect.Value {
	var l []reflect.Value
	switch v.Kind() {
	case reflect.Pointer:
		return listsOf(v.Elem())
	case reflect.Struct:
		for i := range v.NumField() {
			l = append(l, listsOf(v.Field(i))...)
		}
	case reflect.Slice:
		if v.Cap() > 0 {
			l = append(l, v)
		}
		for i := range v.Len() {
			l = append(l, listsOf(v.Index(i))...)
		}
	}
	return l
}

// spoil changes all that can be reached from a value.
func spoil(v reflect.Value) {
	for _, field := range slices.Backward(fieldsIn(v)) {
		switch field.Kind() {
		case reflect.Int:
			field.SetInt(-7)
		case reflect.String:
			field.SetString("spoiled")
		}
	}
}

// declSamples are declarations with their texts.
var declSamples = []struct {
	text string
	decl api.Decl
}{
	{"var x = 0;", api.Decl{Kind: api.VarDecl, Name: "x"}},
	{"var x = 10;", api.Decl{Kind: api.VarDecl, Name: "x", A: 10}},
	{"var x = -1099511627776;", api.Decl{Kind: api.VarDecl, Name: "x", A: -maxInt}},
	{"atomic counter_1 = 1099511627776;", api.Decl{Kind: api.AtomicDecl, Name: "counter_1", A: maxInt}},
	{"atomic counter = -1;", api.Decl{Kind: api.AtomicDecl, Name: "counter", A: -1}},
	{"mutex m;", api.Decl{Kind: api.MutexKind, Name: "m"}},
	{"rwlock " + longName + ";", api.Decl{Kind: api.RWLockKind, Name: longName}},
	{"future y;", api.Decl{Kind: api.FutureKind, Name: "y"}},
	{"cond c on m;", api.Decl{Kind: api.CondKind, Name: "c", Name2: "m"}},
	{"cond c on c;", api.Decl{Kind: api.CondKind, Name: "c", Name2: "c"}},
	{"semaphore s 3;", api.Decl{Kind: api.SemaphoreKind, Name: "s", A: 3}},
	{"semaphore s 0 any;", api.Decl{Kind: api.SemaphoreKind, Name: "s", B: 1}},
	{"semaphore s 1099511627776 any;", api.Decl{Kind: api.SemaphoreKind, Name: "s", A: maxInt, B: 1}},
	{"barrier b 2;", api.Decl{Kind: api.BarrierKind, Name: "b", A: 2}},
	{"channel c 0;", api.Decl{Kind: api.ChannelKind, Name: "c"}},
	{"channel c 1099511627776;", api.Decl{Kind: api.ChannelKind, Name: "c", A: maxInt}},
	{"topic t 101;", api.Decl{Kind: api.TopicKind, Name: "t", A: 101}},
	{"limiter l 3 every 10;", api.Decl{Kind: api.LimiterKind, Name: "l", A: 3, B: 10}},
	{"limiter l 0 every 0;", api.Decl{Kind: api.LimiterKind, Name: "l"}},
	{"limiter l 1 every 1099511627776;", api.Decl{Kind: api.LimiterKind, Name: "l", A: 1, B: maxInt}},
}

// procSamples are procedures with their texts.
var procSamples = []struct {
	text string
	proc api.Proc
}{
	{"task main() {\n}", api.Proc{Kind: api.TaskProc, Name: "main"}},
	{"task f() priority 9 {\n}", api.Proc{Kind: api.TaskProc, Name: "f", Priority: 9}},
	{"task f(a) priority 1 {\n\tyield;\n}", api.Proc{Kind: api.TaskProc, Name: "f", Params: []string{"a"}, Priority: 1, Body: yields(1)}},
	{"func g(a, b) {\n\treturn a + b;\n}", api.Proc{Kind: api.FuncProc, Name: "g", Params: []string{"a", "b"}, Body: []api.Stmt{{Kind: api.ReturnStmt, Exprs: []api.Expr{bin(api.PlusOp, name("a"), name("b"))}}}}},
	{"cleanup h(a, a, c, d, e, f, g, h) {\n\tyield;\n\tyield;\n}", api.Proc{Kind: api.CleanupProc, Name: "h", Params: []string{"a", "a", "c", "d", "e", "f", "g", "h"}, Body: yields(2)}},
}

func op(number int, exprs []api.Expr, names ...string) api.Stmt {
	return api.Stmt{Kind: api.ObjectStmt, Op: number, Name: "o", Exprs: exprs, Names: names}
}

// stmtSamples are statements with their texts.
var stmtSamples = []struct {
	text string
	stmt api.Stmt
}{
	{"let a = 1;", api.Stmt{Kind: api.LetStmt, Name: "a", Exprs: []api.Expr{num(1)}}},
	{"let a = x < 2 && !b;", api.Stmt{Kind: api.LetStmt, Name: "a", Exprs: []api.Expr{bin(api.AndOp, bin(api.LessOp, name("x"), num(2)), un(api.NotOp, name("b")))}}},
	{"a = -a;", api.Stmt{Kind: api.AssignStmt, Name: "a", Exprs: []api.Expr{un(api.NegOp, name("a"))}}},
	{"a = (1 + 2) * 3;", api.Stmt{Kind: api.AssignStmt, Name: "a", Exprs: []api.Expr{bin(api.TimesOp, bin(api.PlusOp, num(1), num(2)), num(3))}}},
	{"if a {\n}", api.Stmt{Kind: api.IfStmt, Exprs: []api.Expr{name("a")}}},
	{"if a {\n\tyield;\n}", api.Stmt{Kind: api.IfStmt, Exprs: []api.Expr{name("a")}, Body: yields(1)}},
	{"if (a || b) && c {\n\tyield;\n} else {\n\tyield;\n\tyield;\n}", api.Stmt{Kind: api.IfStmt, Exprs: []api.Expr{bin(api.AndOp, bin(api.OrOp, name("a"), name("b")), name("c"))}, Body: yields(1), Else: yields(2)}},
	{"if a {\n} else {\n\tyield;\n}", api.Stmt{Kind: api.IfStmt, Exprs: []api.Expr{name("a")}, Else: yields(1)}},
	{"while 1 < 2 {\n\tmask {\n\t\tyield;\n\t}\n}", api.Stmt{Kind: api.WhileStmt, Exprs: []api.Expr{bin(api.LessOp, num(1), num(2))}, Body: []api.Stmt{mask(yield())}}},
	{"while a {\n}", api.Stmt{Kind: api.WhileStmt, Exprs: []api.Expr{name("a")}}},
	{"repeat n {\n\tyield;\n}", api.Stmt{Kind: api.RepeatStmt, Exprs: []api.Expr{name("n")}, Body: yields(1)}},
	{"return 0;", api.Stmt{Kind: api.ReturnStmt, Exprs: []api.Expr{num(0)}}},
	{"return (1 + 2) * 3;", api.Stmt{Kind: api.ReturnStmt, Exprs: []api.Expr{bin(api.TimesOp, bin(api.PlusOp, num(1), num(2)), num(3))}}},
	{"fail 7;", api.Stmt{Kind: api.FailStmt, Exprs: []api.Expr{num(7)}}},
	{"assert !a;", api.Stmt{Kind: api.AssertStmt, Exprs: []api.Expr{un(api.NotOp, name("a"))}}},
	{"emit -5;", api.Stmt{Kind: api.EmitStmt, Exprs: []api.Expr{un(api.NegOp, num(5))}}},
	{"sleep 1099511627776;", api.Stmt{Kind: api.SleepStmt, Exprs: []api.Expr{num(maxInt)}}},
	{"yield;", yield()},
	{"checkpoint;", api.Stmt{Kind: api.CheckpointStmt}},
	{"cancel;", api.Stmt{Kind: api.CancelStmt}},
	{"scope {\n}", api.Stmt{Kind: api.ScopeStmt, Exprs: []api.Expr{{}, {}}}},
	{"scope as r_ {\n\tyield;\n}", api.Stmt{Kind: api.ScopeStmt, Name: "r_", Exprs: []api.Expr{{}, {}}, Body: yields(1)}},
	{"scope deadline 7 {\n}", api.Stmt{Kind: api.ScopeStmt, Exprs: []api.Expr{num(7), {}}}},
	{"scope budget 0 {\n}", api.Stmt{Kind: api.ScopeStmt, Exprs: []api.Expr{{}, num(0)}}},
	{"scope deadline t + 1 budget -b as r {\n\tyield;\n}", api.Stmt{Kind: api.ScopeStmt, Name: "r", Exprs: []api.Expr{bin(api.PlusOp, name("t"), num(1)), un(api.NegOp, name("b"))}, Body: yields(1)}},
	{"mask {\n}", mask()},
	{"mask {\n\tyield;\n\tmask {\n\t}\n\tyield;\n}", mask(yield(), mask(), yield())},
	{"spawn f();", api.Stmt{Kind: api.SpawnStmt, Name: "f"}},
	{"spawn f(a, 1, b + 1, -2, (1 + 2) * 3, 6, 7, 8);", api.Stmt{Kind: api.SpawnStmt, Name: "f", Exprs: []api.Expr{name("a"), num(1), bin(api.PlusOp, name("b"), num(1)), un(api.NegOp, num(2)), bin(api.TimesOp, bin(api.PlusOp, num(1), num(2)), num(3)), num(6), num(7), num(8)}}},
	{"call f();", api.Stmt{Kind: api.CallStmt, Name: "f"}},
	{"call f(1) as b;", api.Stmt{Kind: api.CallStmt, Name: "f", Names: []string{"b"}, Exprs: []api.Expr{num(1)}}},
	{"call f() as f;", api.Stmt{Kind: api.CallStmt, Name: "f", Names: []string{"f"}}},
	{"defer h();", api.Stmt{Kind: api.DeferStmt, Name: "h"}},
	{"defer h(1, a);", api.Stmt{Kind: api.DeferStmt, Name: "h", Exprs: []api.Expr{num(1), name("a")}}},
	{"lock o;", op(api.OpLock, nil)},
	{"unlock o;", op(api.OpUnlock, nil)},
	{"readlock o;", op(api.OpReadLock, nil)},
	{"readunlock o;", op(api.OpReadUnlock, nil)},
	{"writelock o;", op(api.OpWriteLock, nil)},
	{"writeunlock o;", op(api.OpWriteUnlock, nil)},
	{"wait o;", op(api.OpWait, nil)},
	{"signal o;", op(api.OpSignal, nil)},
	{"broadcast o;", op(api.OpBroadcast, nil)},
	{"subscribe o;", op(api.OpSubscribe, nil)},
	{"unsubscribe o;", op(api.OpUnsubscribe, nil)},
	{"close o;", op(api.OpCloseChannel, nil)},
	{"acquire o, n + 1;", op(api.OpAcquire, []api.Expr{bin(api.PlusOp, name("n"), num(1))})},
	{"release o, 1;", op(api.OpRelease, []api.Expr{num(1)})},
	{"send o, -x;", op(api.OpSend, []api.Expr{un(api.NegOp, name("x"))})},
	{"publish o, 2;", op(api.OpPublish, []api.Expr{num(2)})},
	{"take o, 3;", op(api.OpTake, []api.Expr{num(3)})},
	{"complete o, (1 + 2) * 3;", op(api.OpComplete, []api.Expr{bin(api.TimesOp, bin(api.PlusOp, num(1), num(2)), num(3))})},
	{"trylock o as ok;", op(api.OpTryLock, nil, "ok")},
	{"arrive o as n;", op(api.OpArrive, nil, "n")},
	{"next o as v;", op(api.OpNext, nil, "v")},
	{"await o as v;", op(api.OpAwait, nil, "v")},
	{"tryacquire o, 2 as ok;", op(api.OpTryAcquire, []api.Expr{num(2)}, "ok")},
	{"receive o as v, ok;", op(api.OpReceive, nil, "v", "ok")},
	{"select {\n\tdefault {\n\t}\n}", choose(otherwise())},
	{"select {\n\tsend c, x + 1 {\n\t\tyield;\n\t}\n\treceive c as v, ok {\n\t\tselect {\n\t\t\treceive c as b, a {\n\t\t\t}\n\t\t}\n\t}\n\tdefault {\n\t\tyield;\n\t}\n\tsend c, 2 {\n\t}\n}", choose(sends(bin(api.PlusOp, name("x"), num(1)), yield()), receives("v", "ok", choose(receives("b", "a"))), otherwise(yield()), sends(num(2)))},
	{"add x, 1 as old;", api.Stmt{Kind: api.AddStmt, Name: "x", Names: []string{"old"}, Exprs: []api.Expr{num(1)}}},
	{"swap x, a, b + 1 as ok;", api.Stmt{Kind: api.SwapStmt, Name: "x", Names: []string{"ok"}, Exprs: []api.Expr{name("a"), bin(api.PlusOp, name("b"), num(1))}}},
	{"begin 0, x;", api.Stmt{Kind: api.BeginStmt, Exprs: []api.Expr{num(0), name("x")}}},
	{"begin 1099511627776, -1;", api.Stmt{Kind: api.BeginStmt, Exprs: []api.Expr{num(maxInt), un(api.NegOp, num(1))}}},
	{"end 1;", api.Stmt{Kind: api.EndStmt, Exprs: []api.Expr{num(1)}}},
}

// singles returns small sources, which together have everything in them.
func singles() []api.Source {
	var l []api.Source
	for _, sample := range declSamples {
		l = append(l, api.Source{Decls: []api.Decl{sample.decl}})
	}
	for _, sample := range procSamples {
		l = append(l, api.Source{Procs: []api.Proc{sample.proc}})
	}
	for _, sample := range stmtSamples {
		l = append(l, with(sample.stmt))
	}
	return l
}

// everything returns a source with everything in it.
func everything() api.Source {
	var src api.Source
	for _, sample := range declSamples {
		src.Decls = append(src.Decls, sample.decl)
	}
	for _, sample := range procSamples {
		src.Procs = append(src.Procs, sample.proc)
	}
	for i, sample := range stmtSamples {
		src.Procs[i%4].Body = append(slices.Clip(src.Procs[i%4].Body), sample.stmt)
	}
	return src
}
