package lexer_test

import (
	"reflect"
	"slices"
	"strings"
	"testing"

	"nursery/api"
	"nursery/expr"
	"nursery/lexer"
)

// checkPlaces makes sure that the tokens of s stand in it one behind the other, and nothing but gaps between them.
func checkPlaces(t *testing.T, s string, l []api.Token) {
	t.Helper()
	end := 0
	for i, token := range l {
		if token.At < end || !strings.HasPrefix(s[min(token.At, len(s)):], token.Text) || (token.Kind == api.EndToken) != (i == len(l)-1) || (token.Text == "") != (i == len(l)-1) {
			t.Fatalf("P10.2: the token %d of %q is %v", i, brief(s), token)
		}
		if gap := s[end:token.At]; blanks.FindString(gap) != gap {
			t.Fatalf("P10.2: %q is no gap before the token %d of %q", gap, i, brief(s))
		}
		end = token.At + len(token.Text)
	}
	if end != len(s) {
		t.Errorf("P10.2: the end of %q is at %d", brief(s), end)
	}
}

// withoutPlaces returns tokens without their offsets.
func withoutPlaces(l []api.Token) []api.Token {
	l = slices.Clone(l)
	for i := range l {
		l[i].At = 0
	}
	return l
}

func TestP10_2Places(t *testing.T) {
	found := 0
	for n := range 6 {
		lists([]byte("a10=<! \n#-&"), n, func(bytes []byte) {
			if l, _, err := lexer.Tokens(string(bytes)); err == api.OK {
				checkPlaces(t, string(bytes), l)
				found++
			}
		})
	}
	if found < 10000 {
		t.Errorf("%d texts", found)
	}
}

// TestP10_2Gaps puts the same tokens into several texts.
func TestP10_2Gaps(t *testing.T) {
	next := randoms(11)
	for range 3000 {
		l := texts(next, next(40))
		var first []api.Token
		for range 4 {
			s, offsets := laidOut(next, l)
			list := tokens(t, s)
			checkPlaces(t, s, list)
			if len(list) != len(l)+1 {
				t.Fatalf("P10.2: %d tokens instead of %d in %q", len(list), len(l)+1, brief(s))
			}
			for i, token := range list {
				if token.At != offsets[i] || i < len(l) && token.Text != l[i] {
					t.Errorf("P10.2: the token %d of %q is %v", i, brief(s), token)
				}
			}
			if first == nil {
				first = withoutPlaces(list)
			}
			if !slices.Equal(withoutPlaces(list), first) {
				t.Errorf("P10.2: %q has other tokens than with other gaps: %v", brief(s), list)
			}
		}
	}
	// Every gap between every two tokens.
	all := slices.Concat(signs, names[:12], numbers[:8], reserved[:4])
	for _, a := range all {
		for _, b := range all {
			want := withoutPlaces(tokens(t, a+" "+b))
			for _, gap := range gaps {
				if gap == "" && areGlued(a, b) {
					continue
				}
				if l := tokens(t, gap+a+gap+b+gap); !slices.Equal(withoutPlaces(l), want) {
					t.Errorf("P10.2: %q and %q with the gap %q: %v", a, b, gap, l)
				}
			}
		}
	}
}

// TestP10_2Gluing puts two tokens together: if they are others then, the first one is longer.
func TestP10_2Gluing(t *testing.T) {
	all := slices.Concat(signs, names, numbers, reserved)
	for _, a := range all {
		for _, b := range all {
			l, at, err := lexer.Tokens(a + b)
			switch {
			case err != api.OK:
				if !areGlued(a, b) || at != 0 {
					t.Errorf("P10.2: %q and %q without a gap: %d, %d", a, b, at, err)
				}
			case areGlued(a, b) != (len(l[0].Text) > len(a)):
				t.Errorf("P10.2: %q and %q without a gap: %v", a, b, l)
			}
		}
	}
}

func TestP10_3RoundTrip(t *testing.T) {
	sizes := map[int]int{}
	for _, e := range valid() {
		s := text(t, e)
		if again, at, err := lexer.Parse(s); !reflect.DeepEqual(again, e) || at != 0 || err != api.OK {
			t.Errorf("P10.3: Parse(%q): %v, %d, %d", s, again, at, err)
		}
		l := tokens(t, s)
		for _, l := range [][]api.Token{l, l[:len(l)-1]} {
			want := len(tokens(t, s)) - 1
			if again, n, err := lexer.Expr(l); !expr.Equal(again, e) || n != want || err != api.OK {
				t.Errorf("P10.3: Expr of %q: %v, %d, %d", s, again, n, err)
			}
		}
		sizes[expr.Size(e)]++
	}
	for _, size := range []int{1, 2, 3, 4, 5, 10, 20, 97, 98, 99, 100} {
		if sizes[size] < 8 {
			t.Errorf("%d expressions of the size %d", sizes[size], size)
		}
	}
}

// TestP10_3Reserved has reserved names in expressions: their texts are no expressions.
func TestP10_3Reserved(t *testing.T) {
	for _, s := range reserved {
		for _, e := range []api.Expr{name(s), un(api.NegOp, name(s)), bin(api.PlusOp, name(s), num(1)), bin(api.AndOp, name("x"), un(api.NotOp, name(s)))} {
			printed := text(t, e)
			if again, at, err := lexer.Parse(printed); !isZero(again) || at != strings.Index(printed, s) || err != api.ErrSyntax {
				t.Errorf("P10.3: Parse(%q): %v, %d, %d", printed, again, at, err)
			}
		}
	}
}

func TestP10_4NormalForm(t *testing.T) {
	check := func(s string) {
		e, _, err := lexer.Parse(s)
		if err != api.OK {
			return
		}
		if expr.Check(e) != api.OK {
			t.Fatalf("P10.4: Parse(%q) is not valid: %v", brief(s), e)
		}
		printed := text(t, e)
		again, at, err := lexer.Parse(printed)
		if !reflect.DeepEqual(again, e) || at != 0 || err != api.OK {
			t.Errorf("P10.4: %q is printed as %q, which is %v, %d, %d", brief(s), printed, again, at, err)
		}
		if other := text(t, again); other != printed {
			t.Errorf("P10.4: %q is printed as %q, and then as %q", brief(s), printed, other)
		}
	}
	next := randoms(12)
	for _, e := range valid() {
		for _, extra := range []int{0, 2, 9} {
			s, _ := laidOut(next, loose(next, e, extra))
			check(s)
		}
	}
	for n := range 7 {
		lists([]byte("x1-!(+<)"), n, func(l []byte) { check(string(l)) })
	}
}

// TestP10_5Tokens puts other tokens behind one that cannot follow.
func TestP10_5Tokens(t *testing.T) {
	next := randoms(13)
	errors := 0
	for _, e := range valid()[:1500] {
		l := tokens(t, strings.Join(spoiled(next, loose(next, e, 8)), " "))
		_, n, err := lexer.Expr(l)
		if err != api.ErrSyntax || n == len(l)-1 {
			continue
		}
		errors++
		check := func(other []api.Token) {
			if e, at, err := lexer.Expr(other); !isZero(e) || at != n || err != api.ErrSyntax {
				t.Errorf("P10.5: Expr(%v): %v, %d, %d instead of the index %d", other[:min(len(other), 20)], e, at, err, n)
			}
		}
		check(l[:n+1])
		for range 5 {
			check(slices.Concat(l[:n+1], tokens(t, strings.Join(texts(next, next(20)), " "))))
			check(slices.Concat(l[:n+1], noOperands[next(len(noOperands)):]))
		}
		// Before the token there is no other error: an operand is missing, or a parenthesis.
		for i := range n + 1 {
			if _, at, err := lexer.Expr(l[:i]); err == api.ErrSyntax && at != i {
				t.Errorf("P10.5: Expr(%v): the index %d", l[:i], at)
			}
		}
	}
	if errors < 500 {
		t.Errorf("%d errors", errors)
	}
}

// TestP10_5Texts puts other tokens behind one at which an error of syntax is reported.
func TestP10_5Texts(t *testing.T) {
	next := randoms(14)
	errors := 0
	for _, e := range slices.Concat(valid()[:1500], oversized()) {
		l := loose(next, e, 8)
		s, _ := laidOut(next, spoiled(next, l))
		if next(3) == 0 {
			s, _ = laidOut(next, append(l, texts(next, 1+next(3))...))
		}
		_, at, err := lexer.Parse(s)
		if err != api.ErrSyntax {
			continue
		}
		errors++
		list := tokens(t, s)
		i := slices.IndexFunc(list, func(token api.Token) bool { return token.At == at })
		if i < 0 {
			t.Fatalf("P10.5: Parse(%q): there is no token at %d", brief(s), at)
		}
		if list[i].Kind == api.EndToken {
			continue
		}
		before := s[:at+len(list[i].Text)]
		for range 5 {
			more, _ := laidOut(next, texts(next, next(20)))
			more = gaps[1+next(len(gaps)-1)] + more
			if e, otherAt, err := lexer.Parse(before + more); !isZero(e) || otherAt != at || err != api.ErrSyntax {
				t.Errorf("P10.5: Parse(%q): %v, %d, %d instead of %d", brief(before+more), e, otherAt, err, at)
			}
		}
		if e, otherAt, err := lexer.Parse(before); !isZero(e) || otherAt != at || err != api.ErrSyntax {
			t.Errorf("P10.5: Parse(%q): %v, %d, %d instead of %d", brief(before), e, otherAt, err, at)
		}
	}
	if errors < 500 {
		t.Errorf("%d errors", errors)
	}
}

// TestP10_5Bytes has bytes behind an error that are no tokens: they matter.
func TestP10_5Bytes(t *testing.T) {
	for _, s := range []string{"x y", "x + )", ")", "(x y)", "x < y < z", "x + if"} {
		for more, want := range map[string]api.Errno{" &": api.ErrSyntax, " 01": api.ErrSyntax, " " + longName + "a": api.ErrName, " 1099511627777": api.ErrRange} {
			if e, at, err := lexer.Parse(s + more); !isZero(e) || at != len(s)+1 || err != want {
				t.Errorf("P10.5: Parse(%q): %v, %d, %d", s+more, e, at, err)
			}
		}
	}
}

// offsetOf returns the offset of a line and a column.
func offsetOf(s string, line, column int) int {
	offset := column - 1
	for i, l := range strings.SplitAfter(s, "\n") {
		if i < line-1 {
			offset += len(l)
		}
	}
	return offset
}

func TestP10_6Positions(t *testing.T) {
	next := randoms(15)
	samples := append(slices.Clone(gaps), "", "\n\n\n", "a\nb", "\r\n\r\n", "é\n\xff", strings.Repeat("\n", 200), strings.Repeat("x\n", 200), strings.Repeat("ab", 200))
	for range 200 {
		s, _ := laidOut(next, texts(next, next(40)))
		samples = append(samples, s)
	}
	for _, s := range samples {
		line, column := 1, 0
		for at := range len(s) + 1 {
			nextLine, nextColumn := lexer.Position(s, at)
			if nextLine < line || nextLine == line && nextColumn <= column {
				t.Errorf("P10.6: %d, %d follows %d, %d at %d of %q", nextLine, nextColumn, line, column, at, brief(s))
			}
			line, column = nextLine, nextColumn
			if offset := offsetOf(s, line, column); offset != at || line < 1 || column < 1 {
				t.Errorf("P10.6: %d, %d at %d of %q is at %d", line, column, at, brief(s), offset)
			}
		}
		if line != 1+strings.Count(s, "\n") {
			t.Errorf("P10.6: %q has %d lines", brief(s), line)
		}
	}
}

// TestP10_7Parentheses puts parentheses around expressions, and around everything within them.
func TestP10_7Parentheses(t *testing.T) {
	next := randoms(16)
	for _, e := range valid() {
		s := text(t, e)
		for _, other := range []string{"(" + s + ")", "(( " + s + "#)\n) )", strings.Repeat("(", 20) + s + strings.Repeat(")", 20), strings.Join(loose(next, e, 0), ""), strings.Join(loose(next, e, 1), "\n")} {
			if again, at, err := lexer.Parse(other); !reflect.DeepEqual(again, e) || at != 0 || err != api.OK {
				t.Errorf("P10.7: Parse(%q): %v, %d, %d instead of %s", brief(other), again, at, err, s)
			}
		}
	}
	for _, e := range oversized() {
		s := strings.Join(loose(next, e, 9), " ")
		_, at, err := lexer.Parse(s)
		if _, otherAt, otherErr := lexer.Parse("(" + s + ")"); len(s) < 3998 && (err == api.OK || otherAt != at || otherErr != err) {
			t.Errorf("P10.7: Parse((%s)): %d, %d instead of %d, %d", brief(s), otherAt, otherErr, at, err)
		}
	}
}

// TestP10_7Pairs has two operators in a row.
func TestP10_7Pairs(t *testing.T) {
	a, b, c := name("a"), num(1), name("c")
	for _, first := range operators {
		for _, second := range operators {
			s := "a " + first.sign + " 1 " + second.sign + " c"
			e, at, err := lexer.Parse(s)
			if first.precedence == 3 && second.precedence == 3 {
				if want := len("a 1  ") + len(first.sign); !isZero(e) || at != want || err != api.ErrSyntax {
					t.Errorf("P10.7: Parse(%s): %v, %d, %d", s, e, at, err)
				}
				continue
			}
			want := bin(second.op, bin(first.op, a, b), c)
			if second.precedence > first.precedence {
				want = bin(first.op, a, bin(second.op, b, c))
			}
			if !reflect.DeepEqual(e, want) || at != 0 || err != api.OK {
				t.Errorf("P10.7: Parse(%s): %v, %d, %d", s, e, at, err)
			}
			for _, s := range []string{"(a " + first.sign + " 1) " + second.sign + " c", "(a" + first.sign + "(1))" + second.sign + "(c)"} {
				if e := parse(t, s); !reflect.DeepEqual(e, bin(second.op, bin(first.op, a, b), c)) {
					t.Errorf("P10.7: Parse(%s): %v", s, e)
				}
			}
			for _, s := range []string{"a " + first.sign + " (1 " + second.sign + " c)", "a" + first.sign + "((1" + second.sign + "c))"} {
				if e := parse(t, s); !reflect.DeepEqual(e, bin(first.op, a, bin(second.op, b, c))) {
					t.Errorf("P10.7: Parse(%s): %v", s, e)
				}
			}
		}
	}
}

// TestP10_7Unary has operators with one argument before and behind those with two.
func TestP10_7Unary(t *testing.T) {
	a, b := name("a"), num(1)
	for op, sign := range map[int]string{api.NegOp: "-", api.NotOp: "!"} {
		for _, o := range operators {
			for s, want := range map[string]api.Expr{
				sign + "a " + o.sign + " 1":               bin(o.op, un(op, a), b),
				sign + "(a " + o.sign + " 1)":             un(op, bin(o.op, a, b)),
				"a " + o.sign + sign + "1":                bin(o.op, a, un(op, b)),
				"a " + o.sign + sign + "-1":               bin(o.op, a, un(op, un(api.NegOp, b))),
				sign + sign + "a" + o.sign + "(!1)":       bin(o.op, un(op, un(op, a)), un(api.NotOp, b)),
				sign + "(-a)" + o.sign + " (" + "1" + ")": bin(o.op, un(op, un(api.NegOp, a)), b),
			} {
				if e := parse(t, s); !reflect.DeepEqual(e, want) {
					t.Errorf("P10.7: Parse(%s): %v", s, e)
				}
			}
		}
	}
}

// TestP10_7Rows has many operators in a row: each one of two binds first of which no operator between them has less precedence.
func TestP10_7Rows(t *testing.T) {
	next := randoms(17)
	for range 3000 {
		var l []operator
		words := []string{"x"}
		for range 2 + next(9) {
			o := operators[next(len(operators))]
			// Between two comparisons there must be && or ||.
			i := slices.IndexFunc(reversed(l), func(p operator) bool { return p.precedence <= 3 })
			if o.precedence == 3 && i >= 0 && reversed(l)[i].precedence == 3 {
				o = operators[11+next(2)]
			}
			l = append(l, o)
			words = append(words, o.sign, names[next(9)])
		}
		s := strings.Join(words, " ")
		if e := parse(t, s); !reflect.DeepEqual(e, split(l, words)) {
			t.Errorf("P10.7: Parse(%s): %v", s, e)
		}
	}
}

func reversed(l []operator) []operator {
	l = slices.Clone(l)
	slices.Reverse(l)
	return l
}

// split returns the expression of names and operators: the operator outside is the last one of those with the least precedence.
func split(l []operator, words []string) api.Expr {
	if len(l) == 0 {
		return name(words[0])
	}
	outside := 0
	for i, o := range l {
		if o.precedence <= l[outside].precedence {
			outside = i
		}
	}
	return bin(l[outside].op, split(l[:outside], words[:2*outside+1]), split(l[outside+1:], words[2*outside+2:]))
}
