package typecheck_test

import (
	"fmt"
	"slices"
	"strings"
	"sync"
	"testing"

	"nursery/api"
	"nursery/syntax"
	"nursery/typecheck"
)

// objects declares an object of each kind, a variable and an atomic one.
const objects = "var x = 0; atomic n = 0; mutex m; rwlock w; cond d on m; semaphore s 2; barrier b 2; channel c 0; topic t 1; limiter l 1 every 5; future u; "

// objectNames are the names of the objects by their kinds.
var objectNames = strings.Fields("? m w d s b c t l u")

// helpers are a procedure of each kind.
const helpers = " task f(a) {} func g(a, e) {} cleanup h(a) {}"

// parsed returns the source with a text.
func parsed(t *testing.T, s string) api.Source {
	t.Helper()
	src, at, err := syntax.Parse(s)
	if err != api.OK {
		t.Fatalf("%s: %d at %d", s, err, at)
	}
	return src
}

// text returns the text of a source, or another description.
func text(src api.Source) string {
	if s, err := syntax.Print(src); err == api.OK {
		return s
	}
	s := fmt.Sprintf("%+v", src)
	return s[:min(len(s), 2000)]
}

// listing returns a text for problems: for each one, the procedure, the statement and the error.
func listing(l []api.Problem) string {
	var words []string
	for _, p := range l {
		words = append(words, fmt.Sprintf("%d.%d %d", p.Proc, p.Stmt, p.Error))
	}
	return strings.Join(words, ", ")
}

// checkProblems compares the problems of a source with those that are expected, and with those of the model.
func checkProblems(t *testing.T, src api.Source, want string) {
	t.Helper()
	l, err := typecheck.Problems(src)
	if listing(l) != want || err != api.OK {
		t.Errorf("P12.1: Problems: %s, %d instead of %s\n%s", listing(l), err, want, text(src))
	}
	checkAll(t, src)
}

// checkAll compares the results of all functions with those of the models.
func checkAll(t *testing.T, src api.Source) []api.Problem {
	t.Helper()
	want, wantErr := expectedProblems(src)
	if l, err := typecheck.Problems(src); !slices.Equal(l, want) || err != wantErr {
		t.Errorf("P12.1: Problems: %s, %d instead of %s, %d\n%s", listing(l), err, listing(want), wantErr, text(src))
	}
	if err := typecheck.Check(src); err != expectedCheck(src) {
		t.Errorf("P12.1: Check: %d instead of %d\n%s", err, expectedCheck(src), text(src))
	}
	edges, wantErr := expectedCalls(src)
	if l, err := typecheck.Calls(src); !slices.Equal(l, edges) || err != wantErr {
		t.Errorf("P12.1: Calls: %v, %d instead of %v, %d\n%s", l, err, edges, wantErr, text(src))
	}
	for proc := -1; proc <= len(src.Procs); proc++ {
		checkProc(t, src, proc)
	}
	return want
}

// checkProc compares the results of the functions for a procedure with those of the models.
func checkProc(t *testing.T, src api.Source, proc int) {
	t.Helper()
	locals, wantErr := expectedLocals(src, proc)
	if l, err := typecheck.Locals(src, proc); !slices.Equal(l, locals) || err != wantErr {
		t.Errorf("P12.1: Locals(%d): %v, %d instead of %v, %d\n%s", proc, l, err, locals, wantErr, text(src))
	}
	names, wantErr := expectedWrites(src, proc)
	if l, err := typecheck.Writes(src, proc); !slices.Equal(l, names) || err != wantErr {
		t.Errorf("P12.1: Writes(%d): %v, %d instead of %v, %d\n%s", proc, l, err, names, wantErr, text(src))
	}
}

func TestP12_1Examples(t *testing.T) {
	checkProblems(t, parsed(t, "var x = 0; task main() { let a = 1; a = x < 2; }"), "0.1 15")
	checkProblems(t, parsed(t, "task main() { return 1; } func f() { scope { return 1; } }"), "1.1 17")
}

func TestP12_1Declarations(t *testing.T) {
	for _, row := range [][2]string{
		{"", ""},
		{"var x = 0; atomic y = 1; mutex z;", ""},
		{"var x = 0; var x = 0;", "-1.1 6"},
		{"var x = 0; mutex x; var y = 0; future x;", "-1.1 6, -1.3 6"},
		{"mutex main;", ""},
		{"semaphore s 0;", "-1.0 2"}, {"semaphore s 1;", ""}, {"semaphore s 100 any;", ""}, {"semaphore s 101;", "-1.0 2"}, {"semaphore s 1099511627776;", "-1.0 2"},
		{"barrier s 0;", "-1.0 2"}, {"barrier s 1;", ""}, {"barrier s 100;", ""}, {"barrier s 101;", "-1.0 2"},
		{"topic s 0;", "-1.0 2"}, {"topic s 1;", ""}, {"topic s 100;", ""}, {"topic s 101;", "-1.0 2"},
		{"channel s 0;", ""}, {"channel s 1;", ""}, {"channel s 100;", ""}, {"channel s 101;", "-1.0 2"},
		{"limiter s 0 every 1;", "-1.0 2"}, {"limiter s 1 every 0;", "-1.0 2"}, {"limiter s 1 every 1;", ""}, {"limiter s 100 every 1099511627776;", ""}, {"limiter s 101 every 1;", "-1.0 2"},
		{"var s = -1099511627776; atomic t = 101;", ""},
		{"cond c on m;", "-1.0 7"}, {"cond c on m; mutex m;", ""}, {"mutex m; cond c on m;", ""},
		{"cond c on c;", "-1.0 8"}, {"cond c on m; var m = 0;", "-1.0 8"}, {"rwlock m; cond c on m;", "-1.1 8"}, {"cond c on main;", "-1.0 7"},
		{"cond c on m; var m = 0; mutex m;", "-1.0 8, -1.2 6"}, {"cond c on m; mutex m; var m = 0;", "-1.2 6"},
		{"var s = 0; semaphore s 0;", "-1.1 6"}, {"var s = 0; cond s on m;", "-1.1 6"},
	} {
		checkProblems(t, parsed(t, row[0]+"task main() {}"), row[1])
	}
}

// numbered returns texts with the numbers from 0 to n - 1.
func numbered(format string, n int) string {
	var s strings.Builder
	for i := range n {
		fmt.Fprintf(&s, format, i)
	}
	return s.String()
}

func TestP12_1TooManyDeclarations(t *testing.T) {
	variables, objects := numbered("var x%d = 0;", 15), numbered("mutex m%d;", 15)
	for _, row := range [][2]string{
		{variables + objects + "atomic y = 0; future u;", ""},
		{variables + "atomic y = 0; future u;" + objects, ""},
		{variables + "atomic y = 0; atomic z = 0; future u;", "-1.16 4"},
		{variables + "atomic y = 0; var z = 0; var z1 = 0;", "-1.16 4, -1.17 4"},
		{variables + "atomic y = 0; var y = 0;", "-1.16 6"},
		{variables + "var x0 = 0; var z = 0;", "-1.15 6, -1.16 4"},
		{objects + "channel y 1; channel z 1; var x = 0;", "-1.16 4"},
		{objects + "channel y 1; semaphore z 0;", "-1.16 4"},
		{objects + "channel y 1; cond z on m;", "-1.16 4"},
		{objects + "channel y 1; channel y 0;", "-1.16 6"},
		{objects + "mutex m0; mutex y;", "-1.15 6, -1.16 4"},
		{"cond y on z;" + objects + "mutex z;", "-1.16 4"},
	} {
		checkProblems(t, parsed(t, row[0]+"task main() {}"), row[1])
	}
	// A variable beyond the limit is declared nevertheless.
	checkProblems(t, parsed(t, variables+"atomic y = 0; var z = 0; task main() { z = 1; emit z; let z = 1; }"), "-1.16 4, 0.2 6")
}

func TestP12_1Procedures(t *testing.T) {
	for _, row := range [][2]string{
		{"", "-1.-1 7"},
		{"var x = 0; var x = 0;", "-1.1 6, -1.-1 7"},
		{"task main() {}", ""}, {"task f() priority 9 {}", ""},
		{"func main() {}", "0.-1 16"}, {"cleanup main() {}", "0.-1 16"}, {"task main(a) {}", "0.-1 16"}, {"func main(a) {}", "0.-1 16"},
		{"task main(a, a) {}", "0.-1 16"},
		{"task main() {} task main() {}", "1.-1 6"}, {"task main() {} func main(a, a) {}", "1.-1 6"},
		{"task main() {} func f() {} func g() {} cleanup f() {} task g() {}", "3.-1 6, 4.-1 6"},
		{"task main() {} func f(a, b) {} func g(b, a) {}", ""},
		{"task main() {} func f(a, a) {}", "1.-1 6"}, {"task main() {} func f(a, b, c, a) {}", "1.-1 6"}, {"task main() {} func f(b, a, a) {}", "1.-1 6"},
		{"var x = 0; task main() {} func f(x) {}", "1.-1 6"}, {"mutex x; task main() {} func f(a, x) {}", "1.-1 6"},
		{"task main() {} func f(main, f) {}", ""}, {"var main = 0; task main() {}", ""},
		{"task main() {} func f(a, b, c, d, e, f, g, h) {}", ""},
		{"var x = 0; var x = 0; func main() { emit x < 1; } task main() { emit y; } task main() {}", "-1.1 6, 0.-1 16, 0.0 15, 1.-1 6, 1.0 7, 2.-1 6"},
	} {
		checkProblems(t, parsed(t, row[0]), row[1])
	}
}

// TestP12_1Parameters has parameters that are local variables, or are not.
func TestP12_1Parameters(t *testing.T) {
	for _, row := range [][2]string{
		{"task main() {} func f(a, b) { return a + b; }", ""},
		{"task main() {} func f(a) { if a {} }", "1.0 15"},
		{"task main() {} func f(a) { let a = 1; }", "1.0 6"},
		{"task main() {} func f(a, a) { return a; }", "1.-1 6"},
		{"mutex x; task main() {} func f(x) { return x; x = 1; }", "1.-1 6, 1.0 7, 1.1 7"},
		{"var x = 0; task main() {} func f(x) { return x; x = 1; }", "1.-1 6"},
		{"task main(a) { emit a; }", "0.-1 16"},
		{"task main() { emit a; } func f(a) {}", "0.0 7"},
		{"channel c 1; task main() {} func f(a, b) { receive c as a, b; }", "1.0 15"},
		{"channel c 1; task main() {} func f(a, b) { receive c as b, e; call f(1, 2) as a; scope as b {} }", ""},
	} {
		checkProblems(t, parsed(t, row[0]), row[1])
	}
}

// TestP12_1Places has statements that are not allowed everywhere.
func TestP12_1Places(t *testing.T) {
	for _, s := range []string{"call g(1, 2);", "call q();", "defer h(1);", "defer q();", "spawn f(1);", "spawn f();", "mask {}", "scope {}", "scope deadline q as x {}", "cancel;", "begin 1, 2;", "begin 100, q;", "end 3;", "end q;"} {
		src := parsed(t, "task main() {}"+helpers+"cleanup k() { emit 1; if 1 < 2 { "+s+" } }")
		checkProblems(t, src, "4.2 16")
	}
	for _, s := range []string{"call g(1, 2);", "defer h(1);", "spawn f(1);", "mask {}", "scope {}", "cancel;", "begin 1, 2;", "end 3;"} {
		checkProblems(t, parsed(t, "task main() {"+s+"}"+helpers), "")
		checkProblems(t, parsed(t, "task main() {}"+helpers+"func k() { if 1 < 2 {} else {"+s+" } }"), "")
	}
	for _, row := range [][2]string{
		{"return 1;", ""}, {"if 1 < 2 { return 1; } else { return 2; }", ""},
		{"scope { return 1; }", "1.1 17"}, {"mask { return 1; }", "1.1 17"},
		{"scope {} return 1; mask {} return 1;", ""},
		{"scope { mask {} return 1; }", "1.2 17"}, {"mask { scope {} return 1; }", "1.2 17"},
		{"scope { if 1 < 2 { emit 1; } else { return 1; } } return 1;", "1.3 17"},
		{"mask { while 1 < 2 { return 1; } }", "1.2 17"}, {"scope { repeat 2 { return 1; } }", "1.2 17"},
		{"mask { select { receive c as a, e {} default { return 1; } } }", "1.2 17"},
		{"if 1 < 2 { mask { return 1; } return 1; } else { scope { return 1; } } return 1;", "1.2 17, 1.5 17"},
		{"select { default { scope {} return 1; } }", ""},
	} {
		checkProblems(t, parsed(t, "channel c 1; task main() {} func f() {"+row[0]+"}"), row[1])
		checkProblems(t, parsed(t, "channel c 1; task main() {"+row[0]+"}"), "")
	}
	checkProblems(t, parsed(t, "task main() { scope { return q; } } func f() { scope { return q; } }"), "0.1 7, 1.1 17")
	checkProblems(t, parsed(t, "task main() {} cleanup f() { scope { return 1; } mask { emit 1; return 1; } return 1; }"), "1.0 16, 1.1 17, 1.2 16, 1.4 17")
}

// inMain compares the problems of some statements, each with the number of the statement and the error.
func inMain(t *testing.T, rows [][2]string) {
	t.Helper()
	for _, row := range rows {
		want := row[1]
		if want != "" {
			want = "0." + strings.ReplaceAll(want, ", ", ", 0.")
		}
		checkProblems(t, parsed(t, objects+"task main() {"+row[0]+"}"+helpers), want)
	}
}

func TestP12_1Variables(t *testing.T) {
	inMain(t, [][2]string{
		{"", ""},
		{"let a = 1; let a = 2;", "1 6"}, {"let x = 1; let n = 1; let m = 1; let u = 1;", "0 6, 1 6, 2 6, 3 6"}, {"let main = 1; let f = main; let q = f;", ""},
		{"let a = a;", "0 7"}, {"let a = a; emit a;", "0 7"}, {"let a = 1 + (1 < 2); if a {} emit a;", "0 15, 1 15"}, {"let a = 1 < q; if a {} emit a;", "0 7, 1 15"},
		{"let a = 1 < 2; if a {} emit a;", "2 15"}, {"let a = x; emit a; if a {}", "2 15"},
		{"let a = 1 < 2; let a = 1; if a {} emit a;", "1 6, 3 15"}, {"let a = 1; let a = 1 < 2; if a {} emit a;", "1 6, 2 15"},
		{"let x = 1 < 2; emit x; if x {}", "0 6, 2 15"}, {"let m = 1; emit m;", "0 6, 1 7"}, {"let x = q;", "0 6"}, {"let a = 1; let a = q;", "1 6"},
		{"if 1 < 2 { let a = 1; } else { emit a; } emit a;", ""}, {"if 1 < 2 { emit a; } else { let a = 1; } emit a;", "1 7"},
		{"while 1 < 2 { emit a; let a = 1; }", "1 7"},
		{"a = 1;", "0 7"}, {"m = 1;", "0 7"}, {"main = 1;", "0 7"}, {"a = 1 < 2;", "0 7"}, {"a = 1 + (1 < 2);", "0 7"}, {"a = 1; let a = 1; a = 2;", "0 7"},
		{"x = 1; n = 2; x = n;", ""}, {"x = 1 < 2;", "0 15"}, {"n = 1 < 2;", "0 15"}, {"x = q;", "0 7"}, {"x = 1 + (1 < 2);", "0 15"},
		{"let a = 1 < 2; a = 2 < 3; a = 1;", "2 15"}, {"let a = 1; a = a < 2; a = a + 2;", "1 15"}, {"let a = 1; a = q;", "1 7"},
		{"let a = 1; let e = a == x; e = e == (1 < 2); e = a == e;", "3 15"},
	})
}

func TestP12_1Expressions(t *testing.T) {
	inMain(t, [][2]string{
		{"if 1 {}", "0 15"}, {"if 1 < 2 {}", ""}, {"if q {}", "0 7"}, {"if x {}", "0 15"}, {"if m {}", "0 7"},
		{"while 1 {}", "0 15"}, {"while 1 < 2 {}", ""}, {"assert 1;", "0 15"}, {"assert 1 < 2;", ""}, {"assert q < 1;", "0 7"},
		{"repeat 1 < 2 {}", "0 15"}, {"repeat 1 {}", ""}, {"return 1 < 2;", "0 15"}, {"return 1;", ""}, {"fail 1 < 2;", "0 15"}, {"fail 1;", ""},
		{"emit 1 < 2;", "0 15"}, {"emit x + n;", ""}, {"emit m;", "0 7"}, {"emit main;", "0 7"}, {"sleep 1 < 2;", "0 15"}, {"sleep 1;", ""},
		{"yield; checkpoint; cancel; mask {}", ""},
		{"scope {}", ""}, {"scope deadline 1 < 2 {}", "0 15"}, {"scope budget 1 < 2 {}", "0 15"}, {"scope deadline q budget 1 < 2 {}", "0 7"}, {"scope deadline 1 < 2 budget q {}", "0 15"}, {"scope deadline 1 budget q {}", "0 7"}, {"scope deadline x budget n {}", ""},
		{"begin 0, x; end x;", ""}, {"begin 99, 1;", ""}, {"begin 100, 1;", "0 2"}, {"begin 1099511627776, q;", "0 2"}, {"begin 99, q;", "0 7"}, {"begin 0, 1 < 2;", "0 15"}, {"end 1 < 2;", "0 15"}, {"end 100;", ""}, {"begin 0, 100;", ""},
		{"if 1 < 2 { emit 1; } else { emit 1 < 2; } emit 2 < 3;", "2 15, 3 15"},
		{"emit q + (1 < 2);", "0 7"}, {"emit 1 + (1 < 2) + q;", "0 15"}, {"emit (1 < 2) == q;", "0 7"},
	})
}

func TestP12_1Uses(t *testing.T) {
	inMain(t, [][2]string{
		{"spawn f(1); spawn f(x); spawn main();", ""}, {"spawn q(1);", "0 7"}, {"spawn x(1);", "0 7"}, {"spawn g(1, 2);", "0 8"}, {"spawn h(1);", "0 8"},
		{"spawn f();", "0 10"}, {"spawn f(1, 2);", "0 10"}, {"spawn f(q, q);", "0 10"}, {"spawn g();", "0 8"}, {"spawn f(1 < 2);", "0 15"}, {"spawn f(q);", "0 7"},
		{"call g(1, 2); call g(1, 2) as a; emit a;", ""}, {"call q(1, 2);", "0 7"}, {"call f(1);", "0 8"}, {"call h(1);", "0 8"}, {"call main();", "0 8"},
		{"call g(1);", "0 10"}, {"call g(1, 2, 3);", "0 10"}, {"call g(1, 1 < 2);", "0 15"}, {"call g(1 < 2, q);", "0 15"}, {"call g(q, 1 < 2);", "0 7"},
		{"call g(1, a) as a; emit a;", "0 7"}, {"call g(1, 2) as x;", "0 6"}, {"call g(1, q) as x;", "0 7"}, {"call q() as a; emit a; if a {}", "0 7, 2 15"},
		{"let a = 1 < 2; call g(1, 2) as a; if a {}", "1 15"}, {"let a = 1; call g(1, a) as a;", ""},
		{"defer h(1);", ""}, {"defer q(1);", "0 7"}, {"defer f(1);", "0 8"}, {"defer g(1, 2);", "0 8"}, {"defer h();", "0 10"}, {"defer h(1 < 2);", "0 15"}, {"defer h(x + q);", "0 7"},
	})
	// The first procedure with a name is the one that counts.
	for _, row := range [][2]string{
		{"task main() { spawn f(); call f(); } task f() {} func f() {}", "0.1 8, 2.-1 6"},
		{"task main() { spawn f(); call f(); } func f() {} task f() {}", "0.0 8, 2.-1 6"},
		{"task main() { spawn f(1); spawn f(); } task f(a) {} task f() {}", "0.1 10, 2.-1 6"},
		{"task main() { spawn main(); } task main(a) {}", "1.-1 6"},
		{"task main() { call f(); } func f() { call f(); spawn main(); }", ""},
	} {
		checkProblems(t, parsed(t, row[0]), row[1])
	}
}

func TestP12_1Atomic(t *testing.T) {
	inMain(t, [][2]string{
		{"add n, 1 as a; emit a; if a {}", "2 15"}, {"swap n, 1, x as a; if a {} emit a;", "2 15"},
		{"add x, 1 as a; emit a;", "0 8"}, {"add m, 1 as a;", "0 7"}, {"add q, 1 as a;", "0 7"}, {"let q = 1; add q, 1 as a;", "1 7"}, {"add main, 1 as a;", "0 7"},
		{"swap x, 1, 1 as a;", "0 8"}, {"swap m, 1, 1 as a;", "0 7"}, {"swap q, 1, 1 as a;", "0 7"}, {"swap q, 1, 1 as a; if a {}", "0 7"},
		{"add n, 1 < 2 as a;", "0 15"}, {"add n, a as a; emit a;", "0 7"}, {"add n, q as x;", "0 7"}, {"add n, 1 as x;", "0 6"}, {"add n, 1 as n;", "0 6"}, {"add n, 1 as m;", "0 6"},
		{"swap n, 1 < 2, q as a;", "0 15"}, {"swap n, 1, 1 < 2 as a;", "0 15"}, {"swap n, q, 1 < 2 as a;", "0 7"}, {"swap n, 1, q as a;", "0 7"}, {"swap n, 1, 2 as x;", "0 6"},
		{"let a = 1 < 2; add n, 1 as a; swap n, 1, 2 as a;", "1 15"}, {"let a = 1; swap n, 1, 2 as a; add n, 1 as a;", "1 15"},
	})
}

// TestP12_1Operations has all operations on what is declared with each kind, and on what is not.
func TestP12_1Operations(t *testing.T) {
	for _, row := range objectRows {
		rest := strings.Repeat(", 1", row.exprs)
		uses := "yield;"
		switch row.as {
		case "int":
			rest, uses = rest+" as a", "emit a;"
		case "bool":
			rest, uses = rest+" as a", "if a {}"
		case "int bool":
			rest, uses = rest+" as a, e", "if e { emit a; }"
		}
		for kind, object := range objectNames {
			if kind == row.kind {
				inMain(t, [][2]string{{row.word + " " + object + rest + ";" + uses, ""}})
			} else if kind > 0 {
				inMain(t, [][2]string{{row.word + " " + object + rest + ";" + uses, "0 8"}})
			}
		}
		word := row.word + " " + objectNames[row.kind]
		inMain(t, [][2]string{
			{row.word + " x" + rest + ";" + uses, "0 8"}, {row.word + " n" + rest + ";", "0 8"}, {row.word + " q" + rest + ";" + uses, "0 7"}, {row.word + " main" + rest + ";", "0 7"},
			{"let q = 1;" + row.word + " q" + rest + ";" + uses, "1 7"},
		})
		if row.exprs == 1 {
			inMain(t, [][2]string{{word + strings.Replace(rest, "1", "1 < 2", 1) + ";", "0 15"}, {word + strings.Replace(rest, "1", "q", 1) + ";" + uses, "0 7"}, {row.word + " x" + strings.Replace(rest, "1", "q", 1) + ";", "0 8"}})
		}
		if row.as != "" {
			others := "emit a;"
			if row.as == "int" {
				others = "if a {}"
			}
			inMain(t, [][2]string{{word + rest + ";" + strings.Replace(uses, "emit a", "emit 1", 1), ""}, {word + strings.Replace(rest, " as a", " as x", 1) + ";", "0 6"}})
			if row.as != "int bool" {
				inMain(t, [][2]string{{word + rest + ";" + others, "1 15"}})
			}
		}
	}
}

func TestP12_1Receive(t *testing.T) {
	inMain(t, [][2]string{
		{"receive c as a, e; emit a; if e {}", ""}, {"receive c as a, e; if a {} emit e;", "1 15, 2 15"},
		{"receive c as a, a; emit a;", "0 16"}, {"receive c as a, a; if a {}", "0 16, 1 15"}, {"receive q as a, a; emit a;", "0 7"},
		{"receive c as x, x;", "0 6"}, {"receive c as m, a; if a {}", "0 6"}, {"receive c as a, m; emit a;", "0 6"},
		{"let a = 1 < 2; receive c as a, a; if a {}", "1 15"}, {"let a = 1; receive c as a, a; emit a;", "1 16"},
		{"let a = 1; receive c as e, a; emit a; emit e;", "1 15"}, {"let a = 1 < 2; receive c as a, e; if e {} if a {}", "1 15"},
		{"receive c as a, e; receive c as a, e; receive c as e, a;", "2 15"},
		{"receive x as a, e; emit a; if e {}", "0 8"},
	})
}

func TestP12_1Select(t *testing.T) {
	inMain(t, [][2]string{
		{"select { default {} }", ""}, {"select { send c, 1 {} receive c as a, e { emit a; if e {} } default { emit a; } } emit a;", ""},
		{"select { send c, a {} receive c as a, e {} } emit a;", "0 7"}, {"select { receive c as a, e {} send c, a {} }", ""}, {"select { receive c as a, e {} send c, e {} }", "0 15"},
		{"select { receive m as a, e {} }", "0 8"}, {"select { send x, 1 {} }", "0 8"}, {"select { send q, 1 {} }", "0 7"}, {"select { receive main as a, e {} } emit a;", "0 7"},
		{"select { send c, 1 < 2 {} }", "0 15"}, {"select { send c, q {} }", "0 7"}, {"select { send c, 1 {} send c, q {} send m, 1 {} }", "0 7"}, {"select { send c, 1 {} send m, q {} send q, 1 {} }", "0 8"},
		{"select { receive c as a, e {} receive c as e, a {} }", "0 15"}, {"select { receive c as a, e {} receive c as a, e {} }", ""}, {"select { receive c as a, a {} } emit a;", "0 16"},
		{"select { receive c as x, a {} send q, 1 {} }", "0 6"}, {"select { receive c as a, x { emit a; } }", "0 6"}, {"select { default {} receive c as a, x {} }", "0 6"},
		{"select { receive m as a, e {} receive c as i, a {} } emit i; if e {}", "0 8"},
		{"select { send c, 1 { emit 1 < 2; } default { emit 1; emit q; } } assert 1;", "1 15, 3 7, 4 15"},
		{"select { receive c as a, e { let i = 1; } receive c as i, r {} }", "1 6"},
		{"let a = 1; select { receive c as a, a {} } emit a;", "1 16"}, {"let a = 1 < 2; select { receive c as a, a {} } if a {}", "1 15"},
	})
}

func TestP12_1Scope(t *testing.T) {
	inMain(t, [][2]string{
		{"scope as a { emit a; } emit a;", ""}, {"scope as x {}", "0 6"}, {"scope as m {}", "0 6"}, {"scope deadline a as a {} emit a;", "0 7"}, {"scope as a {} if a {}", "1 15"},
		{"let a = 1 < 2; scope as a {} if a {}", "1 15"}, {"let a = 1; scope as a {} scope as a {}", ""}, {"scope deadline q as x {}", "0 7"},
		{"scope { let a = 1; } scope as a {}", ""}, {"scope { emit r; scope as r {} }", "1 7"},
	})
}

func TestP12_1TooManyLocals(t *testing.T) {
	n := func(n int) string { return numbered("let i%d = 1;", n) }
	inMain(t, [][2]string{
		{n(20), ""}, {n(21), "20 4"}, {n(22), "20 4, 21 4"}, {n(20) + "let y = 1; emit y;", "20 4, 21 7"}, {n(20) + "let y = q;", "20 7"}, {n(20) + "let i0 = 1; let x = 1;", "20 6, 21 6"},
		{n(20) + "emit i19; i0 = i1; scope as i3 {} call g(1, 2) as i4;", ""},
		{n(20) + "scope as y { emit y; }", "20 4, 21 7"}, {n(20) + "call g(1, 2) as y; y = 1;", "20 4, 21 7"}, {n(20) + "add n, 1 as y;", "20 4"}, {n(20) + "swap n, 1, 2 as y;", "20 4"}, {n(20) + "swap n, 1, 2 as i0;", "20 15"}, {n(20) + "add n, 1 as x;", "20 6"},
		{n(20) + "trylock m as y;", "20 4"}, {n(20) + "await u as y;", "20 4"}, {n(20) + "await q as y;", "20 7"}, {n(20) + "tryacquire s, q as y;", "20 7"},
		{n(20) + "receive c as y, y; emit y;", "20 16, 21 7"}, {n(20) + "receive c as y, z; emit y; emit z;", "20 4, 21 7, 22 7"}, {n(20) + "receive c as i0, z;", "20 4"},
		{n(19) + "receive c as y, z; emit y; emit z;", "19 4, 21 7"}, {n(19) + "receive c as y, y; emit y;", "19 16"}, {n(18) + "receive c as y, z; let r = 1;", "19 4"}, {n(19) + "receive c as x, y; emit y;", "19 6, 20 15"},
		{n(19) + "select { receive c as i0, z {} receive c as y, z {} }", "19 4"}, {n(19) + "select { receive c as y, z { emit y; if z {} } send c, z {} }", "19 4, 21 7"}, {n(20) + "select { receive c as y, y {} }", "20 16"},
		{n(18) + "select { receive c as y, z { emit y; if z {} } }", ""},
	})
	checkProblems(t, parsed(t, "task main() {} func f(a, b, c, d, e, f, g, h) {"+n(12)+"emit h; emit i11; let y = 1; }"), "1.14 4")
	checkProblems(t, parsed(t, "mutex a; task main() {} func f(a, b, b, d) {"+n(18)+"let y = 1; }"), "1.-1 6, 1.18 4")
	// Each procedure has local variables of its own.
	checkProblems(t, parsed(t, "task main() {"+n(20)+"} task f() {"+n(20)+"} task g() { emit i0; }"), "2.0 7")
}

func TestP12_1FirstDeclaration(t *testing.T) {
	for _, row := range [][2]string{
		{"var y = 0; mutex y; task main() { y = 1; emit y; lock y; }", "-1.1 6, 0.2 8"},
		{"mutex y; var y = 0; task main() { y = 1; emit y; lock y; }", "-1.1 6, 0.0 7, 0.1 7"},
		{"var y = 0; atomic y = 0; task main() { add y, 1 as a; }", "-1.1 6, 0.0 8"},
		{"atomic y = 0; var y = 0; task main() { add y, 1 as a; }", "-1.1 6"},
		{"mutex y; channel y 0; task main() { send y, 1; lock y; select { send y, 1 {} } }", "-1.1 6, 0.0 8, 0.2 8"},
	} {
		checkProblems(t, parsed(t, row[0]), row[1])
	}
}

// bindingsText returns the names of bindings with their types, and with their values where these are not 0.
func bindingsText(l []api.Binding) string {
	var words []string
	for _, b := range l {
		word := fmt.Sprintf("%s:%d", b.Name, b.Type)
		if b.Value != 0 {
			word += fmt.Sprintf("=%d", b.Value)
		}
		words = append(words, word)
	}
	return strings.Join(words, " ")
}

const severalProcedures = objects + `
task main() { let z = 1; let a = z < 2; receive c as v, ok; select { receive c as r, ok { let i = 1; } default {} } scope as e { mask { trylock m as o; } } spawn p(); spawn f(); x = z; z = x; }
task f() {}
func g(k, a) { call g(1, 2); call g(1, 2) as a; add n, 1 as i; swap n, 1, 2 as e; n = 4; defer h(); defer h(); }
cleanup h() { tryacquire s, 1 as a; await u as z; next t as d2; arrive b as f; }
task p() { if 1 < 2 { spawn f(); } else { select { default { call g(1, 1) as z9; } } } let a10 = 1; let a2 = 1; let a_ = 1; }
cleanup k() { x = 1; }
`

func TestP12_1Procedure(t *testing.T) {
	src := parsed(t, severalProcedures)
	checkProblems(t, src, "")
	for proc, want := range []struct{ locals, writes string }{
		{"a:2 e:1 i:1 o:2 ok:2 r:1 v:1 z:1", "n x"},
		{"", ""},
		{"a:1 e:2 i:1 k:1", "n"},
		{"a:2 d2:1 f:1 z:1", ""},
		{"a10:1 a2:1 a_:1 z9:1", "n"},
		{"", "x"},
	} {
		locals, err := typecheck.Locals(src, proc)
		if got := bindingsText(locals); got != want.locals || err != api.OK {
			t.Errorf("P12.1: Locals(%d): %s, %d instead of %s", proc, got, err, want.locals)
		}
		names, err := typecheck.Writes(src, proc)
		if got := strings.Join(names, " "); got != want.writes || err != api.OK {
			t.Errorf("P12.1: Writes(%d): %s, %d instead of %s", proc, got, err, want.writes)
		}
	}
	edges, err := typecheck.Calls(src)
	if want := []api.Edge{{From: 0, To: 1}, {From: 0, To: 4}, {From: 2, To: 2}, {From: 2, To: 3}, {From: 4, To: 1}, {From: 4, To: 2}}; !slices.Equal(edges, want) || err != api.OK {
		t.Errorf("P12.1: Calls: %v, %d instead of %v", edges, err, want)
	}
}

// TestP12_1Index has indices of procedures that do not exist.
func TestP12_1Index(t *testing.T) {
	src := parsed(t, severalProcedures)
	bad := parsed(t, severalProcedures+"task f() {}")
	large := api.Source{Decls: make([]api.Decl, 33)}
	for _, proc := range []int{-1 << 63, -2, -1, 6, 7, 100, 1<<63 - 1} {
		for _, row := range []struct {
			src  api.Source
			want api.Errno
		}{{src, api.ErrRange}, {bad, api.ErrExists}, {api.Source{}, api.ErrNotFound}, {large, api.ErrLimit}} {
			if l, err := typecheck.Locals(row.src, proc); len(l) != 0 || err != row.want {
				t.Errorf("P12.1: Locals(%d): %v, %d instead of %d", proc, l, err, row.want)
			}
			if l, err := typecheck.Writes(row.src, proc); len(l) != 0 || err != row.want {
				t.Errorf("P12.1: Writes(%d): %v, %d instead of %d", proc, l, err, row.want)
			}
		}
	}
}

// checkInvalid compares what all functions return for a source that layer 11 does not allow.
func checkInvalid(t *testing.T, src api.Source, want api.Errno) {
	t.Helper()
	problems, err1 := typecheck.Problems(src)
	err2 := typecheck.Check(src)
	calls, err3 := typecheck.Calls(src)
	if err1 != want || err2 != want || err3 != want || len(problems)+len(calls) != 0 {
		t.Errorf("P12.1: Problems: %s, %d, Check: %d, Calls: %v, %d instead of %d", listing(problems), err1, err2, calls, err3, want)
	}
	for proc := -1; proc <= len(src.Procs); proc++ {
		locals, err1 := typecheck.Locals(src, proc)
		writes, err2 := typecheck.Writes(src, proc)
		if err1 != want || err2 != want || len(locals)+len(writes) != 0 {
			t.Errorf("P12.1: Locals: %v, %d, Writes: %v, %d instead of %d", locals, err1, writes, err2, want)
		}
	}
}

// TestP12_1Invalid has sources that layer 11 does not allow, some of which contain themselves.
func TestP12_1Invalid(t *testing.T) {
	with := func(s api.Stmt) api.Source {
		return api.Source{Procs: []api.Proc{{Kind: api.TaskProc, Name: "main", Body: []api.Stmt{s}}}}
	}
	endless := api.Stmt{Kind: api.MaskStmt, Body: make([]api.Stmt, 1)}
	endless.Body[0] = endless
	deep := un(api.NegOp, num(1))
	deep.Args[0] = deep
	cases := api.Stmt{Kind: api.SelectStmt, Cases: []api.Case{{Kind: api.DefaultCase, Body: make([]api.Stmt, 1)}}}
	cases.Cases[0].Body[0] = cases
	wide := api.Stmt{Kind: api.IfStmt, Exprs: []api.Expr{name("a")}, Body: make([]api.Stmt, 2), Else: make([]api.Stmt, 2)}
	wide.Body[0], wide.Body[1], wide.Else[0], wide.Else[1] = wide, wide, wide, wide
	nested := api.Stmt{Kind: api.YieldStmt}
	for range 12 {
		nested = api.Stmt{Kind: api.MaskStmt, Body: []api.Stmt{nested}}
	}
	for _, row := range []struct {
		src  api.Source
		want api.Errno
	}{
		{with(endless), api.ErrLimit}, {with(cases), api.ErrLimit}, {with(wide), api.ErrLimit}, {with(nested), api.ErrDepth},
		{with(api.Stmt{Kind: api.EmitStmt, Exprs: []api.Expr{deep}}), api.ErrLimit},
		{with(api.Stmt{}), api.ErrKind}, {with(api.Stmt{Kind: 25}), api.ErrKind}, {with(api.Stmt{Kind: -1}), api.ErrKind},
		{with(api.Stmt{Kind: api.ObjectStmt, Name: "m"}), api.ErrKind}, {with(api.Stmt{Kind: api.ObjectStmt, Op: api.OpSelect, Name: "m"}), api.ErrKind},
		{with(api.Stmt{Kind: api.LetStmt, Name: "a"}), api.ErrArgument}, {with(api.Stmt{Kind: api.LetStmt, Name: "a", Exprs: make([]api.Expr, 1)}), api.ErrKind},
		{with(api.Stmt{Kind: api.EmitStmt, Exprs: []api.Expr{name("let")}}), api.ErrName},
		{with(api.Stmt{Kind: api.AddStmt, Name: "x", Exprs: []api.Expr{num(1)}}), api.ErrArgument},
		{with(api.Stmt{Kind: api.SelectStmt}), api.ErrArgument},
		{api.Source{Decls: []api.Decl{{Kind: api.VarDecl}}}, api.ErrName}, {api.Source{Decls: []api.Decl{{Name: "x"}}}, api.ErrKind},
		{api.Source{Decls: []api.Decl{{Kind: api.SemaphoreKind, Name: "s", A: -1}}}, api.ErrRange}, {api.Source{Decls: []api.Decl{{Kind: api.LimiterKind, Name: "s", A: 1, B: 1<<40 + 1}}}, api.ErrRange},
		{api.Source{Procs: make([]api.Proc, 33)}, api.ErrLimit}, {api.Source{Procs: make([]api.Proc, 1)}, api.ErrKind},
	} {
		checkInvalid(t, row.src, row.want)
	}
}

// what returns a text for what a problem names, by its kind if it is a statement, and for its error.
func what(src api.Source, p api.Problem) string {
	thing := ""
	switch {
	case p.Proc < 0 && p.Stmt < 0:
		thing = "source"
	case p.Proc < 0:
		thing = "declaration"
	case p.Stmt < 0:
		thing = "procedure"
	default:
		thing = fmt.Sprint(listed(src.Procs[p.Proc].Body)[p.Stmt].stmt.Kind)
	}
	return fmt.Sprint(thing, " ", int(p.Error))
}

// TestP12_1Random compares all functions with the models for random sources, and counts which errors there are.
func TestP12_1Random(t *testing.T) {
	var m sync.Mutex
	found := map[string]int{}
	t.Run("sources", func(t *testing.T) {
		for i, rate := range []int{0, 12, 12, 12, 12, 40, 150} {
			t.Run(fmt.Sprint(rate), func(t *testing.T) {
				t.Parallel()
				for _, src := range sources(41+i, 1000, rate) {
					l := checkAll(t, src)
					m.Lock()
					for _, p := range l {
						found[what(src, p)]++
					}
					if len(l) == 0 {
						found["no problem"]++
					}
					m.Unlock()
				}
			})
		}
	})
	for _, what := range strings.Split("no problem,source 7,declaration 6,declaration 4,declaration 2,declaration 7,declaration 8,procedure 6,procedure 16,"+
		"1 6,1 7,1 15,1 4,2 7,2 15,3 7,3 15,4 7,4 15,5 7,5 15,6 7,6 15,6 17,7 7,7 15,8 7,8 15,9 7,9 15,10 7,10 15,13 16,14 7,14 15,14 6,14 16,14 4,15 16,"+
		"16 16,16 7,16 8,16 10,16 15,17 16,17 7,17 8,17 10,17 15,17 6,17 4,18 16,18 7,18 8,18 10,18 15,19 7,19 8,19 15,19 6,19 16,19 4,"+
		"20 7,20 8,20 15,20 6,20 16,20 4,21 7,21 8,21 15,21 6,21 4,22 7,22 8,22 15,22 6,22 4,23 16,23 7,23 15,23 2,24 16,24 7,24 15", ",") {
		if found[what] < 4 {
			t.Errorf("%s: %d times", what, found[what])
		}
	}
}
