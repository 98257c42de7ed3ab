package expr_test

import (
	"reflect"
	"slices"
	"strings"
	"testing"

	"nursery/api"
	"nursery/expr"
)

// text returns the text of a valid expression.
func text(t *testing.T, e api.Expr) string {
	t.Helper()
	s, err := expr.Print(e)
	if err != api.OK {
		t.Fatalf("Print(%v): %q, %d", e, s, err)
	}
	return s
}

// fold returns a valid expression after folding.
func fold(t *testing.T, e api.Expr) api.Expr {
	t.Helper()
	folded, err := expr.Fold(e)
	if err != api.OK {
		t.Fatalf("Fold(%v): %v, %d", e, folded, err)
	}
	return folded
}

// read returns the expression with a text.
func read(t *testing.T, s string) api.Expr {
	t.Helper()
	e, ok := parse(s)
	if !ok {
		t.Fatalf("%q is no text", s)
	}
	return e
}

// isZero reports whether e is the zero expression.
func isZero(e api.Expr) bool {
	return e.Kind == 0 && e.Op == 0 && e.Name == "" && e.Value == 0 && len(e.Args) == 0
}

// brief returns what tells of an expression that may be endless.
func brief(e api.Expr) string {
	var words []string
	for _, part := range preorder(e, 12) {
		s := part.e.Name[:min(len(part.e.Name), 40)]
		words = append(words, strings.Join([]string{decimal(part.e.Kind), decimal(part.e.Op), s, decimal(part.e.Value), decimal(len(part.e.Args))}, ","))
	}
	return strings.Join(words, " ")
}

// TestSamples makes sure that the samples are as many and as different as the other tests need them.
func TestSamples(t *testing.T) {
	sizes, depths := map[int]int{}, map[int]int{}
	for _, e := range valid() {
		if err := expectedCheck(e); err != api.OK {
			t.Fatalf("%s is not valid: %d", brief(e), err)
		}
		l := preorder(e, maxParts+1)
		sizes[len(l)]++
		deepest := 0
		for _, part := range l {
			deepest = max(deepest, part.depth)
		}
		depths[deepest]++
	}
	for depth := 1; depth <= maxDepth; depth++ {
		if depths[depth] < 20 {
			t.Errorf("%d expressions of the depth %d", depths[depth], depth)
		}
	}
	for _, size := range []int{1, 2, 3, 4, 5, 10, 20, 97, 98, 99, 100} {
		if sizes[size] < 8 {
			t.Errorf("%d expressions of the size %d", sizes[size], size)
		}
	}
	counts := map[api.Errno]int{}
	for _, e := range invalid() {
		counts[expectedCheck(e)]++
	}
	for _, err := range []api.Errno{api.ErrLimit, api.ErrDepth, api.ErrKind, api.ErrArgument, api.ErrRange, api.ErrName} {
		if counts[err] < 100 {
			t.Errorf("%d expressions with the error %d", counts[err], err)
		}
	}
	for _, l := range environments() {
		if !expectedBindings(l) {
			t.Errorf("no bindings: %v", l)
		}
	}
	for _, l := range wrongBindings() {
		if expectedBindings(l) {
			t.Errorf("bindings: %v", l)
		}
	}
	clear(counts)
	for _, e := range scattered() {
		for _, l := range environments() {
			_, err := expectedEval(e, l)
			counts[err]++
		}
	}
	for _, err := range []api.Errno{api.OK, api.ErrNotFound, api.ErrType, api.ErrDivide, api.ErrOverflow} {
		if counts[err] < 300 {
			t.Errorf("%d values with the error %d", counts[err], err)
		}
	}
}

func TestP9_1Check(t *testing.T) {
	for _, e := range slices.Concat(valid(), invalid(), endless()) {
		if err, want := expr.Check(e), expectedCheck(e); err != want {
			t.Errorf("P9.1: Check(%s): %d instead of %d", brief(e), err, want)
		}
	}
}

// TestP9_1CheckExamples has the errors that the chapter names, and expressions to which several of them apply.
func TestP9_1CheckExamples(t *testing.T) {
	long := strings.Repeat("a", 31)
	ten := slices.Repeat([]api.Expr{num(1)}, 10)
	for _, c := range []struct {
		e    api.Expr
		want api.Errno
	}{
		{num(0), api.OK},
		{num(maxInt), api.OK},
		{num(maxInt + 1), api.ErrRange},
		{num(-1), api.ErrRange},
		{name("a"), api.OK},
		{name(long[1:]), api.OK},
		{name(long), api.ErrName},
		{name(""), api.ErrName},
		{api.Expr{}, api.ErrKind},
		{api.Expr{Kind: 5}, api.ErrKind},
		{api.Expr{Kind: 5, Value: -1, Name: "A", Op: 99, Args: ten}, api.ErrKind},
		{api.Expr{Kind: 1, Op: 1}, api.ErrArgument},
		{api.Expr{Kind: 1, Name: "x", Value: -1}, api.ErrArgument},
		{api.Expr{Kind: 1, Args: ten, Value: -1}, api.ErrArgument},
		{api.Expr{Kind: 1, Args: []api.Expr{}}, api.OK},
		{api.Expr{Kind: 2, Name: "x", Args: []api.Expr{}}, api.OK},
		{api.Expr{Kind: 2, Name: "X", Value: 1}, api.ErrArgument},
		{api.Expr{Kind: 2, Name: "X", Op: 1}, api.ErrArgument},
		{api.Expr{Kind: 2, Name: "x", Args: ten[:1]}, api.ErrArgument},
		{api.Expr{Kind: 3, Op: 1}, api.ErrArgument},
		{api.Expr{Kind: 3, Op: 3, Args: ten[:2]}, api.ErrArgument},
		{api.Expr{Kind: 3, Op: 3, Args: ten[:1]}, api.ErrKind},
		{api.Expr{Kind: 3, Op: 0, Args: ten[:1]}, api.ErrKind},
		{api.Expr{Kind: 3, Op: 1, Args: ten[:1], Value: 1}, api.ErrArgument},
		{api.Expr{Kind: 3, Op: 9, Args: ten[:1], Name: "x"}, api.ErrArgument},
		{api.Expr{Kind: 4, Op: 3, Args: ten[:1]}, api.ErrArgument},
		{api.Expr{Kind: 4, Op: 2, Args: ten[:3]}, api.ErrArgument},
		{api.Expr{Kind: 4, Op: 2, Args: ten[:2]}, api.ErrKind},
		{api.Expr{Kind: 4, Op: 16, Args: ten[:2]}, api.ErrKind},
		{api.Expr{Kind: 4, Op: 15, Args: ten[:2], Name: "x"}, api.ErrArgument},
		{bin(16, num(-1), name("X")), api.ErrKind},
		{bin(3, num(-1), name("X")), api.ErrRange},
		{bin(3, name("X"), num(-1)), api.ErrName},
		{bin(3, bin(3, num(1), name("")), num(-1)), api.ErrName},
		{bin(3, un(3, name("")), num(-1)), api.ErrKind},
		{bin(3, num(-1), api.Expr{}), api.ErrRange},
		{bin(3, api.Expr{Kind: 3}, num(-1)), api.ErrArgument},
		{chain(api.NegOp, 12, 0, num(0)), api.OK},
		{chain(api.NegOp, 13, 0, num(0)), api.ErrDepth},
		{chain(api.NegOp, 13, 0, num(-1)), api.ErrDepth},
		{chain(99, 13, 0, num(-1)), api.ErrDepth},
		{chain(api.NegOp, 100, 0, num(0)), api.ErrDepth},
		{chain(api.NegOp, 101, 0, num(0)), api.ErrLimit},
		{filled(api.PlusOp, 100, num(1)), api.OK},
		{filled(api.PlusOp, 101, num(1)), api.ErrLimit},
		{api.Expr{Kind: -1, Args: slices.Repeat(ten, 10)}, api.ErrLimit},
		{api.Expr{Kind: -1, Args: slices.Repeat(ten, 10)[1:]}, api.ErrKind},
		{api.Expr{Kind: 1, Args: slices.Repeat(ten, 10)[1:]}, api.ErrArgument},
	} {
		if err := expr.Check(c.e); err != c.want {
			t.Errorf("P9.1: Check(%s): %d instead of %d", brief(c.e), err, c.want)
		}
	}
}

func TestP9_1Size(t *testing.T) {
	for _, e := range slices.Concat(valid(), invalid(), endless()) {
		if size, want := expr.Size(e), len(preorder(e, 101)); size != want {
			t.Errorf("P9.1: Size(%s): %d instead of %d", brief(e), size, want)
		}
	}
	for n := 1; n <= 100; n++ {
		if size := expr.Size(filled(api.TimesOp, n, name("x"))); size != n {
			t.Errorf("P9.1: Size: %d instead of %d", size, n)
		}
	}
}

func TestP9_1Names(t *testing.T) {
	for _, e := range valid() {
		if l, want := expr.Names(e), expectedNames(e); !slices.Equal(l, want) {
			t.Errorf("P9.1: Names(%s): %q instead of %q", brief(e), l, want)
		}
	}
	for _, e := range slices.Concat(invalid(), endless()) {
		if l := expr.Names(e); len(l) != 0 {
			t.Errorf("P9.1: Names(%s): %q", brief(e), l)
		}
	}
	// All names in other orders, and twice.
	next := randoms(3)
	for range 200 {
		var leaves []api.Expr
		for i, s := range names {
			leaves = slices.Insert(leaves, next(2*i+1), name(s), name(s))
		}
		for len(leaves) > 1 {
			leaves = append(leaves[2:], bin(api.OrOp, leaves[0], leaves[1]))
		}
		if l := expr.Names(leaves[0]); !slices.Equal(l, names) {
			t.Errorf("P9.1: Names: %q", l)
		}
	}
}

// checkValue compares type and value with those by the definition.
func checkValue(t *testing.T, e api.Expr, l []api.Binding) {
	t.Helper()
	wantType, wantTypeError := expectedType(e, l)
	if kind, err := expr.Type(e, l); kind != wantType || err != wantTypeError {
		t.Errorf("P9.1: Type(%s, %v): %d, %d instead of %d, %d", brief(e), l, kind, err, wantType, wantTypeError)
	}
	want, wantError := expectedEval(e, l)
	if value, err := expr.Eval(e, l); value != want || err != wantError {
		t.Errorf("P9.1: Eval(%s, %v): %d, %d instead of %d, %d", brief(e), l, value, err, want, wantError)
	}
}

func TestP9_1Values(t *testing.T) {
	for _, e := range mixed() {
		for _, l := range environments() {
			checkValue(t, e, l)
		}
	}
	for i, e := range slices.Concat(constants(), many()) {
		checkValue(t, e, environments()[i%8])
	}
	for i, e := range slices.Concat(invalid(), endless()) {
		checkValue(t, e, environments()[1+i%6])
	}
}

// TestP9_1Bindings has bindings that are not valid: they are looked at behind the expression, and before its names.
func TestP9_1Bindings(t *testing.T) {
	for _, l := range wrongBindings() {
		for _, e := range []api.Expr{num(1), name("x"), name("nowhere"), bin(api.PlusOp, name("b"), num(1)), bin(api.DivideOp, num(1), num(0))} {
			for _, f := range []func(api.Expr, []api.Binding) (int, api.Errno){expr.Type, expr.Eval} {
				if x, err := f(e, l); x != 0 || err != api.ErrArgument {
					t.Errorf("P9.1: %s with %v: %d, %d", brief(e), l[:min(len(l), 5)], x, err)
				}
			}
		}
		for _, e := range []api.Expr{{}, num(-1), name("X"), chain(api.NegOp, 13, 0, num(1)), filled(api.AndOp, 101, name("b")), endless()[0]} {
			checkValue(t, e, l)
		}
	}
	for _, s := range names {
		l := []api.Binding{{Name: s, Type: 1, Value: -maxInt}}
		checkValue(t, name(s), l)
		checkValue(t, un(api.NegOp, name(s)), l)
		checkValue(t, bin(api.PlusOp, name(s), name(s+"q")), l)
	}
	var all []api.Binding
	for i, s := range names {
		all = append(all, api.Binding{Name: s, Type: 1, Value: i - 5})
	}
	for _, s := range append([]string{"a1", "ab", "w", "zz", "aaa"}, names...) {
		checkValue(t, name(s), all)
	}
}

// TestP9_1Order has errors that apply together: the first part that has one counts, where each part comes behind its arguments, and types come before values.
func TestP9_1Order(t *testing.T) {
	l := environments()[1]
	for s, want := range map[string]api.Errno{
		"b + 1 + zz":                api.ErrType,
		"zz + (b + 1)":              api.ErrNotFound,
		"b + zz":                    api.ErrNotFound,
		"!x && zz":                  api.ErrType,
		"-b == !x":                  api.ErrType,
		"1 / 0 + zz":                api.ErrNotFound,
		"1 / 0 + b":                 api.ErrType,
		"1 / 0 + 1099511627776 * 2": api.ErrDivide,
		"1099511627776 * 2 + 1 / 0": api.ErrOverflow,
		"1 / (0 * 1099511627776)":   api.ErrDivide,
		"(1099511627776 + 1) * 0":   api.ErrOverflow,
		"1099511627776 - 1 + 1":     api.OK,
		"1099511627776 + 1 - 1":     api.ErrOverflow,
		"c && 1 / 0 == 1":           api.ErrDivide,
		"b || 1 / 0 == 1":           api.ErrDivide,
		"c && 1099511627777 - 1 > 0 || b && 0 % 0 < 1": api.ErrRange,
		"b || 0 % 0 < 1":             api.ErrDivide,
		"c && zz":                    api.ErrNotFound,
		"b || x":                     api.ErrType,
		"b == x":                     api.ErrType,
		"x != c":                     api.ErrType,
		"b < c":                      api.ErrType,
		"x && x":                     api.ErrType,
		"b == c":                     api.OK,
		"b != (x < y)":               api.OK,
		"-1099511627776 - 1":         api.ErrOverflow,
		"-1099511627776 - 0":         api.OK,
		"1099511627776 / -1":         api.OK,
		"4294967296 * 4294967296":    api.ErrOverflow,
		"-4294967296 * 4294967296":   api.ErrOverflow,
		"1099511627776 * -1":         api.OK,
		"1048576 * 1048576":          api.OK,
		"-1048576 * 1048576":         api.OK,
		"1048576 * 1048577":          api.ErrOverflow,
		"1048576 * -1048577":         api.ErrOverflow,
		"-1048577 * -1048576":        api.ErrOverflow,
		"549755813889 * 2":           api.ErrOverflow,
		"3 * 366503875926":           api.ErrOverflow,
		"3 * 366503875925":           api.OK,
		"257 * 4278255361":           api.ErrOverflow,
		"-4278255361 * 257":          api.ErrOverflow,
		"0 * 1099511627776":          api.OK,
		"1099511627776 * 0":          api.OK,
		"0 / 0":                      api.ErrDivide,
		"0 % 0":                      api.ErrDivide,
		"5 % (x - 7)":                api.ErrDivide,
		"5 % (x - 6)":                api.OK,
		"1099511627776 % 0 * 9 + zz": api.ErrNotFound,
	} {
		e := read(t, s)
		checkValue(t, e, l)
		if x, err := expr.Eval(e, l); err != want || err != api.OK && x != 0 {
			t.Errorf("P9.1: Eval(%s): %d, %d instead of %d", s, x, err, want)
		}
	}
}

func TestP9_1Fold(t *testing.T) {
	for _, e := range valid() {
		want, _ := expectedFold(e)
		if folded, err := expr.Fold(e); !reflect.DeepEqual(folded, want) || err != api.OK {
			t.Errorf("P9.1: Fold(%s): %s, %d instead of %s", expectedText(e), brief(folded), err, expectedText(want))
		}
	}
	for _, e := range slices.Concat(invalid(), endless()) {
		if folded, err := expr.Fold(e); !isZero(folded) || err != expectedCheck(e) {
			t.Errorf("P9.1: Fold(%s): %s, %d instead of %d", brief(e), brief(folded), err, expectedCheck(e))
		}
	}
}

func TestP9_1FoldExamples(t *testing.T) {
	for s, want := range map[string]string{
		"x + (2 + 3)":             "x + 5",
		"2 + 3 + x":               "5 + x",
		"x + 2 + 3":               "x + 2 + 3",
		"2 + 3":                   "5",
		"2 - 3":                   "-1",
		"-(2 - 3)":                "1",
		"- -5":                    "5",
		"-0":                      "0",
		"-5":                      "-5",
		"0 * -7":                  "0",
		"-7 / 2 + -7 % 2":         "-4",
		"2 + 3 < 3":               "5 < 3",
		"2 + 3 == 10 / 2":         "5 == 5",
		"2 < 3 && !(1 - 2 == 3)":  "2 < 3 && !(-1 == 3)",
		"(2 + 3) / (1 - 1)":       "5 / 0",
		"1 / 0 + (2 + 3)":         "1 / 0 + 5",
		"1099511627776 + (0 + 1)": "1099511627776 + 1",
		"1099511627776 * (1 + 1)": "1099511627776 * 2",
		"(2 + 3) + (1 < 2)":       "5 + (1 < 2)",
		"!(2 + 3)":                "!5",
		"!(2 - 3)":                "!-1",
		"-(2 < 3)":                "-(2 < 3)",
		"x":                       "x",
		"x * 0":                   "x * 0",
		"-x - -(1 + 1)":           "-x - -2",
		"x / (1 - 2)":             "x / -1",
		"(1 - 2) % x":             "-1 % x",
	} {
		if folded := fold(t, read(t, s)); !reflect.DeepEqual(folded, read(t, want)) {
			t.Errorf("P9.1: Fold(%s): %s instead of %s", s, text(t, folded), want)
		}
	}
}

// checkSubstitute compares with the expression whose text has the text of the other expression in place of the name.
func checkSubstitute(t *testing.T, e api.Expr, s string, by api.Expr) {
	t.Helper()
	words := tokens.FindAllString(expectedText(e), -1)
	for i := range words {
		if words[i] == s {
			words[i] = "(" + expectedText(by) + ")"
		}
	}
	want := read(t, strings.Join(words, " "))
	wantError := expectedCheck(want)
	if wantError != api.OK {
		want = api.Expr{}
	}
	if result, err := expr.Substitute(e, s, by); err != wantError || !reflect.DeepEqual(result, want) {
		t.Errorf("P9.1: Substitute(%s, %s, %s): %s, %d instead of %d", expectedText(e), s, expectedText(by), brief(result), err, wantError)
	}
}

func TestP9_1Substitute(t *testing.T) {
	next := randoms(4)
	others := slices.Concat(small()[:40], scattered()[:200], limits())
	for _, e := range slices.Concat(small(), scattered()[:500], limits()) {
		for _, s := range append(expr.Names(e), names[next(len(names))]) {
			checkSubstitute(t, e, s, others[next(len(others))])
			checkSubstitute(t, e, s, bin(api.MinusOp, name(s), name("b")))
		}
	}
}

// TestP9_1SubstituteSizes has results that are as large or as deep as possible, and larger or deeper ones.
func TestP9_1SubstituteSizes(t *testing.T) {
	counts := map[api.Errno]int{}
	for n := 1; n <= maxParts; n++ {
		for _, m := range []int{1, 2, 3, 33, 34, 50, 99, 100} {
			e := chain(api.MinusOp, 1+n%3, 1, filled(api.TimesOp, n, name("a")))
			if expectedCheck(e) != api.OK {
				continue
			}
			by := filled(api.PlusOp, m, num(3))
			checkSubstitute(t, e, "a", by)
			checkSubstitute(t, bin(api.LessOp, name("c"), filled(api.PlusOp, min(n, 98), num(2))), "c", by)
			_, err := expr.Substitute(e, "a", by)
			counts[err]++
		}
	}
	for n := 1; n <= maxDepth; n++ {
		for m := 1; m <= maxDepth; m++ {
			checkSubstitute(t, chain(api.NegOp, n, 0, name("a")), "a", chain(api.NotOp, m, 0, name("a")))
			_, err := expr.Substitute(chain(api.NegOp, n, 0, name("a")), "a", chain(api.NotOp, m, 0, name("a")))
			counts[err]++
		}
	}
	if counts[api.OK] < 50 || counts[api.ErrLimit] < 50 || counts[api.ErrDepth] < 50 || len(counts) != 3 {
		t.Errorf("substitutions: %d", counts)
	}
}

func TestP9_1SubstituteErrors(t *testing.T) {
	check := func(e api.Expr, s string, by api.Expr, want api.Errno) {
		t.Helper()
		if result, err := expr.Substitute(e, s, by); !isZero(result) || err != want {
			t.Errorf("P9.1: Substitute(%s, %q, %s): %s, %d instead of %d", brief(e), s[:min(len(s), 40)], brief(by), brief(result), err, want)
		}
	}
	large := filled(api.PlusOp, 100, name("x"))
	for _, wrong := range slices.Concat(invalid(), endless()) {
		check(wrong, "x", num(1), api.ErrArgument)
		check(name("x"), "x", wrong, api.ErrArgument)
		check(num(1), "x", wrong, api.ErrArgument)
		check(large, "", wrong, api.ErrArgument)
		check(wrong, "X", large, api.ErrArgument)
		check(wrong, "x", wrong, api.ErrArgument)
	}
	for _, s := range noNames {
		check(num(1), s, num(2), api.ErrName)
		check(name("x"), s, name("y"), api.ErrName)
		check(large, s, large, api.ErrName)
	}
}

func TestP9_1Print(t *testing.T) {
	for _, e := range valid() {
		if s, err := expr.Print(e); s != expectedText(e) || err != api.OK {
			t.Errorf("P9.1: Print(%s): %q, %d instead of %q", brief(e), s, err, expectedText(e))
		}
	}
	for _, e := range slices.Concat(invalid(), endless()) {
		if s, err := expr.Print(e); s != "" || err != expectedCheck(e) {
			t.Errorf("P9.1: Print(%s): %q, %d instead of %d", brief(e), s, err, expectedCheck(e))
		}
	}
}

func TestP9_1PrintExamples(t *testing.T) {
	for _, s := range []string{
		"0", "1099511627776", "x", longName,
		"-x", "!b", "--x", "!!b", "-!b", "!-x", "-5", "-(x + 1) * 2", "-(x + 1)", "-x + 1", "!(b && c)", "!b && c", "!(x < y)",
		"x - -y", "x - --y", "-x * -y", "!b == !c", "-x < -y",
		"x + y + 1", "x + (y + 1)", "x - y - 1", "x - (y - 1)", "x - y + 1", "x - (y + 1)",
		"x * y * 2", "x * (y * 2)", "x / y / 2", "x / (y / 2)", "x % y % 2", "x % (y * 2)", "x * y / 2 % 3",
		"x + y * 2", "(x + y) * 2", "x * y + 2", "x * (y + 2)", "x * (y - 2) * 3",
		"x == y", "x + 1 == y * 2", "(x == y) == b", "b == (x == y)", "(x < y) == (y < x)", "(x < y) < x", "x < (x < y)", "(x + y < 2) != c",
		"b && c && b", "b && (c && b)", "b || c || b", "b || (c || b)", "b && c || b", "b && (c || b)", "b || c && b", "(b || c) && b",
		"x < y && y < x", "(x < y && b) == c", "b == c && b", "x == y || x != y && x <= y",
	} {
		e := read(t, s)
		if got := text(t, e); got != s {
			t.Errorf("P9.1: Print(%s): %s instead of %s", brief(e), got, s)
		}
	}
}

// TestP9_1Parentheses reads texts again, and again without a pair of parentheses, which makes another expression, or none: there are enough of them, and not too many.
func TestP9_1Parentheses(t *testing.T) {
	pairs := 0
	for _, e := range valid() {
		s := text(t, e)
		again, ok := parse(s)
		if !ok || !reflect.DeepEqual(again, e) {
			t.Errorf("P9.1: %s is printed as %q", brief(e), s)
		}
		var open []int
		for i, c := range s {
			switch c {
			case '(':
				open = append(open, i)
			case ')':
				from := open[len(open)-1]
				open = open[:len(open)-1]
				pairs++
				other, ok := parse(s[:from] + " " + s[from+1:i] + " " + s[i+1:])
				if ok && reflect.DeepEqual(other, e) {
					t.Errorf("P9.1: the parentheses at %d and %d are not needed: %q", from, i, s)
				}
			}
		}
	}
	if pairs < 50000 {
		t.Errorf("%d pairs of parentheses", pairs)
	}
}

func TestP9_1Equal(t *testing.T) {
	l := slices.Concat(small()[:120], scattered()[:300], limits())
	for i, a := range l {
		for j, b := range l {
			want := i == j || reflect.DeepEqual(a, b)
			if expr.Equal(a, b) != want {
				t.Errorf("P9.1: Equal(%s, %s): %t", brief(a), brief(b), !want)
			}
		}
		if !expr.Equal(a, copied(a)) {
			t.Errorf("P9.1: %s does not equal its copy", brief(a))
		}
	}
	empty := bin(api.PlusOp, api.Expr{Kind: 1, Args: []api.Expr{}}, api.Expr{Kind: 2, Name: "x", Args: make([]api.Expr, 0, 9)})
	if !expr.Equal(empty, bin(api.PlusOp, num(0), name("x"))) || !expr.Equal(bin(api.PlusOp, num(0), name("x")), empty) {
		t.Error("P9.1: empty Args do not equal none")
	}
	for _, wrong := range slices.Concat(invalid(), endless()) {
		if expr.Equal(wrong, wrong) || expr.Equal(wrong, num(1)) || expr.Equal(num(1), wrong) {
			t.Errorf("P9.1: %s equals something", brief(wrong))
		}
	}
}

// TestP9_1EqualChanged compares expressions with ones that differ in one part.
func TestP9_1EqualChanged(t *testing.T) {
	compared := 0
	for _, e := range mixed() {
		for _, part := range preorder(e, maxParts) {
			changed := copied(e)
			p := at(&changed, part.path)
			switch p.Kind {
			case api.NumberExpr:
				p.Value = (p.Value + 1<<32) % (maxInt + 1)
			case api.NameExpr:
				p.Name = "q" + p.Name[1:]
			case api.UnaryExpr:
				p.Op = 3 - p.Op
			case api.BinaryExpr:
				p.Op = 18 - p.Op
			}
			if reflect.DeepEqual(changed, e) {
				continue
			}
			compared++
			if expr.Equal(e, changed) || expr.Equal(changed, e) {
				t.Errorf("P9.1: Equal(%s, %s)", brief(e), brief(changed))
			}
		}
	}
	if compared < 10000 {
		t.Errorf("%d comparisons", compared)
	}
}

func TestP9_1Examples(t *testing.T) {
	e := bin(api.TimesOp, un(api.NegOp, bin(api.PlusOp, name("x"), num(1))), num(2))
	if s := text(t, e); s != "-(x + 1) * 2" {
		t.Errorf("P9.1: Print: %q", s)
	}
	l := []api.Binding{{Name: "x", Type: api.IntType, Value: 4}}
	if kind, err := expr.Type(e, l); kind != api.IntType || err != api.OK {
		t.Errorf("P9.1: Type: %d, %d", kind, err)
	}
	if x, err := expr.Eval(e, l); x != -10 || err != api.OK {
		t.Errorf("P9.1: Eval: %d, %d", x, err)
	}
	folded := fold(t, bin(api.PlusOp, name("x"), bin(api.PlusOp, num(2), num(3))))
	if !expr.Equal(folded, bin(api.PlusOp, name("x"), num(5))) || text(t, folded) != "x + 5" {
		t.Errorf("P9.1: Fold: %v", folded)
	}
	if n, l := expr.Size(e), expr.Names(e); n != 6 || !slices.Equal(l, []string{"x"}) {
		t.Errorf("P9.1: Size, Names: %d, %q", n, l)
	}
}

// places returns the addresses of all expressions in the memory of the Args of e, each as often as it is found.
func places(e api.Expr) []*api.Expr {
	var l []*api.Expr
	args := e.Args[:cap(e.Args)]
	for i := range args {
		l = append(l, &args[i])
	}
	for _, arg := range e.Args {
		l = append(l, places(arg)...)
	}
	return l
}

// checkMemory makes sure that a result has memory of its own, each list another part of it.
func checkMemory(t *testing.T, result api.Expr, arguments ...api.Expr) {
	t.Helper()
	seen := map[*api.Expr]bool{}
	for _, p := range places(result) {
		if seen[p] {
			t.Errorf("P9.1: two lists share memory in %s", brief(result))
			return
		}
		seen[p] = true
	}
	for _, e := range arguments {
		for _, p := range places(e) {
			if seen[p] {
				t.Errorf("P9.1: %s shares memory with an argument", brief(result))
				return
			}
		}
	}
}

func TestP9_1Memory(t *testing.T) {
	shared := bin(api.MinusOp, name("x"), num(2))
	twice := bin(api.TimesOp, shared, un(api.NegOp, shared))
	for _, e := range slices.Concat(scattered(), []api.Expr{twice, bin(api.PlusOp, twice, twice)}) {
		before, beforeBy := copied(e), copied(shared)
		folded := fold(t, e)
		checkMemory(t, folded, e)
		result, err := expr.Substitute(e, "x", shared)
		if err == api.OK {
			checkMemory(t, result, e, shared)
		}
		l := expr.Names(e)
		for i := range l[:cap(l)] {
			l[:cap(l)][i] = "spoiled"
		}
		for _, p := range append(places(result), places(folded)...) {
			*p = api.Expr{Kind: -1}
		}
		text(t, e)
		if !reflect.DeepEqual(e, before) || !reflect.DeepEqual(shared, beforeBy) {
			t.Errorf("P9.1: an argument was changed: %s", expectedText(before))
		}
	}
}

// TestP9_1Unchanged has bindings and expressions with more memory behind them, which are not changed.
func TestP9_1Unchanged(t *testing.T) {
	for _, e := range scattered()[:500] {
		l := append(make([]api.Binding, 0, 80), environments()[1]...)
		wide := copied(e)
		wide.Args = append(make([]api.Expr, 0, 20), wide.Args...)
		before := copied(wide)
		expr.Type(wide, l)
		expr.Eval(wide, l)
		expr.Fold(wide)
		expr.Substitute(wide, "x", wide)
		expr.Substitute(wide, "y", num(3))
		expr.Names(wide)
		expr.Size(wide)
		expr.Check(wide)
		expr.Equal(wide, wide)
		if !slices.Equal(l[:80], append(slices.Clone(environments()[1]), make([]api.Binding, 76)...)) || !reflect.DeepEqual(wide, before) {
			t.Fatalf("P9.1: an argument was changed: %s", expectedText(e))
		}
		for _, x := range wide.Args[len(wide.Args):cap(wide.Args)] {
			if !isZero(x) {
				t.Fatalf("P9.1: the memory behind an argument was changed: %s", expectedText(e))
			}
		}
	}
}
