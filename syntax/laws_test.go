package syntax_test

import (
	"slices"
	"strings"
	"testing"

	"nursery/api"
	"nursery/expr"
	"nursery/lexer"
	"nursery/syntax"
)

// printed returns the text of a source, if it is valid and its text not too long.
func printed(t *testing.T, src api.Source) (string, bool) {
	t.Helper()
	s, err := syntax.Print(src)
	if err != api.OK && err != api.ErrLimit {
		t.Fatalf("Print(%s): %d", brief(src), err)
	}
	return s, err == api.OK
}

func TestP11_2RoundTrip(t *testing.T) {
	t.Parallel()
	check := func(src api.Source) {
		s, ok := printed(t, src)
		if !ok {
			return
		}
		again, at, err := syntax.Parse(s)
		if !isSame(again, src) || !syntax.Equal(again, src) || at != 0 || err != api.OK {
			t.Errorf("P11.2: Parse(%.300q): %s, %d, %d", s, brief(again), at, err)
		}
	}
	for _, src := range slices.Concat(sources(21, 800), singles(), []api.Source{everything(), {}}) {
		check(src)
	}
	for depth := 1; depth <= 12; depth++ {
		for place := range 6 {
			check(with(nested(depth, place)))
		}
	}
	for _, src := range singles() {
		eachChange(src, func(other api.Source) {
			if syntax.Check(other) == api.OK {
				check(other)
			}
		})
	}
}

// TestP11_2Different has sources that differ in one thing: their texts are different.
func TestP11_2Different(t *testing.T) {
	t.Parallel()
	found := map[string]api.Source{}
	check := func(src api.Source) {
		if syntax.Check(src) != api.OK {
			return
		}
		s, ok := printed(t, src)
		if other, has := found[s]; ok && has && !isSame(src, other) {
			t.Errorf("P11.2: %s and %s have the text %.300q", brief(src), brief(other), s)
		}
		found[s] = src
	}
	for _, src := range singles() {
		check(src)
		eachChange(src, check)
	}
	if len(found) < 1000 {
		t.Errorf("%d texts", len(found))
	}
}

// checkNormalForm parses a text, and the text of what it is.
func checkNormalForm(t *testing.T, s string) bool {
	t.Helper()
	src, at, err := syntax.Parse(s)
	if err != api.OK {
		if !isNothing(src) {
			t.Errorf("P11.3: Parse(%.300q): %s, %d, %d", s, brief(src), at, err)
		}
		return false
	}
	if at != 0 || syntax.Check(src) != api.OK {
		t.Errorf("P11.3: Parse(%.300q): %s, %d, which is not valid", s, brief(src), at)
	}
	normal, ok := printed(t, src)
	if !ok {
		return false
	}
	again, at, err := syntax.Parse(normal)
	if !isSame(again, src) || at != 0 || err != api.OK {
		t.Errorf("P11.3: %.300q is printed as %.300q, which is %s, %d, %d", s, normal, brief(again), at, err)
	}
	if other, _ := printed(t, again); other != normal {
		t.Errorf("P11.3: %.300q is printed as %.300q, and then as %.300q", s, normal, other)
	}
	return true
}

func TestP11_3NormalForm(t *testing.T) {
	t.Parallel()
	next := randoms(22)
	found := 0
	for _, src := range slices.Concat(sources(23, 400), singles()) {
		texts := loose(next, src)
		for range 4 {
			if checkNormalForm(t, laidOut(next, texts)) {
				found++
			}
			if len(texts) > 0 {
				i := next(len(texts))
				texts = slices.Replace(texts, i, i+1, alphabet[next(len(alphabet))])
			}
		}
	}
	if found < 300 {
		t.Errorf("%d texts", found)
	}
}

// TestP11_3Long has texts that are shorter than those of what they are.
func TestP11_3Long(t *testing.T) {
	src, at, err := syntax.Parse("task f(){" + strings.Repeat("mask{", 11) + strings.Repeat("x=1;", 140) + strings.Repeat("}", 11) + "}")
	if at != 0 || err != api.OK || syntax.Check(src) != api.OK {
		t.Fatalf("P11.3: Parse: %d, %d", at, err)
	}
	checkPrint(t, src)
	for n := range 150 {
		checkNormalForm(t, "task f(){mask{mask{mask{mask{mask{mask{"+strings.Repeat("x=x+1;", n)+"}}}}}}}")
		checkNormalForm(t, "task f(){select{default{mask{mask{mask{mask{"+strings.Repeat("yield;", n)+"}}}}}}}")
	}
}

// TestP11_4Layout puts the same tokens into several texts.
func TestP11_4Layout(t *testing.T) {
	next := randoms(24)
	for _, src := range slices.Concat(sources(25, 150), singles()) {
		texts := loose(next, src)
		for range 3 {
			s := laidOut(next, texts)
			if len(s) > 4000 {
				continue
			}
			again, at, err := syntax.Parse(s)
			if !isSame(again, src) || at != 0 || err != api.OK {
				t.Errorf("P11.4: Parse(%.300q): %s, %d, %d", s, brief(again), at, err)
			}
		}
	}
	// Every gap between all tokens.
	for _, src := range singles() {
		text, _ := printed(t, src)
		for _, gap := range gaps[1:] {
			s := gap + strings.Join(textsOf(text), gap) + gap
			if again, at, err := syntax.Parse(s); !isSame(again, src) || at != 0 || err != api.OK {
				t.Errorf("P11.4: Parse(%.300q): %s, %d, %d", s, brief(again), at, err)
			}
		}
	}
}

// tokenAt returns the index of the token of s at an offset, or -1.
func tokenAt(s string, at int) int {
	l, _, _ := lexer.Tokens(s)
	return slices.IndexFunc(l, func(token api.Token) bool { return token.At == at })
}

// TestP11_4Errors lays out texts with errors: they are reported at the same token.
func TestP11_4Errors(t *testing.T) {
	next := randoms(26)
	counts := map[api.Errno]int{}
	for _, src := range slices.Concat(sources(27, 150), singles()) {
		texts := loose(next, src)
		if len(texts) == 0 {
			continue
		}
		i := next(len(texts))
		texts = slices.Insert(texts, i, alphabet[next(23)], alphabet[next(len(alphabet))])[:len(texts)+next(3)]
		s := strings.Join(texts, " ")
		if len(s) > 2000 {
			continue
		}
		_, at, err := syntax.Parse(s)
		counts[err]++
		for range 3 {
			other := laidOut(next, texts)
			if len(other) > 4000 {
				continue
			}
			again, otherAt, otherErr := syntax.Parse(other)
			if otherErr != err || err == api.ErrSyntax && (tokenAt(other, otherAt) != tokenAt(s, at) || !isNothing(again)) || err != api.ErrSyntax && otherAt != 0 {
				t.Errorf("P11.4: Parse(%.300q): %d, %d instead of %d, %d, as for %.300q", other, otherAt, otherErr, at, err, s)
			}
		}
	}
	if counts[api.ErrSyntax] < 50 {
		t.Errorf("%v texts", counts)
	}
}

// checkError puts other tokens behind the one at which a syntax error is reported.
func checkError(t *testing.T, next func(int) int, s string) bool {
	t.Helper()
	_, at, err := syntax.Parse(s)
	i := tokenAt(s, at)
	if err != api.ErrSyntax {
		return false
	}
	if i < 0 {
		t.Fatalf("P11.5: Parse(%.300q): there is no token at %d", s, at)
	}
	l, _, _ := lexer.Tokens(s)
	if l[i].Kind == api.EndToken {
		return true
	}
	before := s[:at+len(l[i].Text)]
	for n := range 4 {
		other := before + gaps[1+next(len(gaps)-1)] + laidOut(next, randomList(next, 0, 10*n, func() string { return alphabet[next(len(alphabet))] }))
		if len(other) > 4000 {
			continue
		}
		if src, otherAt, err := syntax.Parse(other); !isNothing(src) || otherAt != at || err != api.ErrSyntax {
			t.Errorf("P11.5: Parse(%.300q): %s, %d, %d instead of %d", other, brief(src), otherAt, err, at)
		}
	}
	if src, otherAt, err := syntax.Parse(before); !isNothing(src) || otherAt != at || err != api.ErrSyntax {
		t.Errorf("P11.5: Parse(%.300q): %s, %d, %d instead of %d", before, brief(src), otherAt, err, at)
	}
	// Without the token there is no error, or the text ends too early.
	before = s[:at]
	if _, otherAt, err := syntax.Parse(before); err == api.ErrSyntax && otherAt != len(before) {
		t.Errorf("P11.5: Parse(%.300q): %d, %d", before, otherAt, err)
	}
	return true
}

func TestP11_5Errors(t *testing.T) {
	t.Parallel()
	next := randoms(28)
	errors := 0
	for _, src := range slices.Concat(sources(29, 300), singles(), singles()) {
		texts := loose(next, src)
		if len(texts) == 0 {
			continue
		}
		for range 4 {
			i := next(len(texts))
			other := slices.Replace(slices.Clone(texts), i, i+1, []string{alphabet[next(23)], alphabet[next(len(alphabet))]}[next(2)])
			if checkError(t, next, laidOut(next, other)) {
				errors++
			}
		}
	}
	if errors < 1000 {
		t.Errorf("%d errors", errors)
	}
}

// TestP11_5Others has errors for which what follows does matter, or that are not reported at a token.
func TestP11_5Others(t *testing.T) {
	for _, s := range []string{"task f() {} x", "task f() {x;", "var x = y", "task f() {x = 1 + if", "task f() {spawn f(1 2"} {
		for more, want := range map[string]api.Errno{" &": api.ErrSyntax, " 01": api.ErrSyntax, " " + longName + "a": api.ErrName, " 1099511627777": api.ErrRange} {
			if src, at, err := syntax.Parse(s + more); !isNothing(src) || at != len(s)+1 || err != want {
				t.Errorf("P11.5: Parse(%.300q): %s, %d, %d", s+more, brief(src), at, err)
			}
		}
	}
	// An expression that is too large is an error as soon as it has ended, a block that is too deep only at the end.
	deep := "task f() {emit " + strings.Repeat("!", 12) + "x"
	blocks := "task f() {" + strings.Repeat("mask {", 12) + "yield;" + strings.Repeat("}", 12)
	for _, c := range []struct {
		s   string
		at  int
		err api.Errno
	}{{deep, 0, api.ErrDepth}, {deep + " x", 0, api.ErrDepth}, {deep + " + ", len(deep) + 3, api.ErrSyntax}, {blocks, len(blocks), api.ErrSyntax}, {blocks + " 1", len(blocks) + 1, api.ErrSyntax}, {blocks + "}", 0, api.ErrDepth}} {
		if _, at, err := syntax.Parse(c.s); at != c.at || err != c.err {
			t.Errorf("P11.5: Parse(%.300q): %d, %d", c.s, at, err)
		}
	}
}

// checkBodies makes sure that statements begin with those of a body, each followed by those within it, and returns the others.
func checkBodies(t *testing.T, l, body []api.Stmt) []api.Stmt {
	t.Helper()
	for _, s := range body {
		if len(l) == 0 || !isSame(with(l[0]), with(s)) {
			t.Fatalf("P11.6: %s instead of %s", brief(l), brief(s))
		}
		l = checkBodies(t, l[1:], s.Body)
		l = checkBodies(t, l, s.Else)
		for _, c := range s.Cases {
			l = checkBodies(t, l, c.Body)
		}
	}
	return l
}

func TestP11_6Preorder(t *testing.T) {
	deepest := 0
	for _, src := range slices.Concat(sources(30, 300), singles(), []api.Source{everything(), with(nested(12, 0)), with(nested(12, 3), yield()), with(yields(300)...)}) {
		total := 0
		for _, p := range src.Procs {
			l, err := syntax.Statements(p)
			if err != api.OK {
				t.Fatalf("P11.6: Statements(%s): %d", brief(p), err)
			}
			if rest := checkBodies(t, l, p.Body); len(rest) != 0 {
				t.Errorf("P11.6: behind the statements of %s there are %s", brief(p), brief(rest))
			}
			size := 0
			for _, s := range l {
				size += 1 + len(s.Cases)
				for _, e := range s.Exprs {
					if !isZero(e) {
						size += expr.Size(e)
					}
				}
				for _, c := range s.Cases {
					if c.Kind == api.SendCase {
						size += expr.Size(c.Expr)
					}
				}
			}
			if got := syntax.Size(api.Source{Procs: []api.Proc{p}}); got != size {
				t.Errorf("P11.6: the size of %s is %d instead of %d", brief(p), got, size)
			}
			total += size
			deepest = max(deepest, len(l))
		}
		if size := syntax.Size(src); size != total {
			t.Errorf("P11.6: the size of %s is %d instead of %d", brief(src), size, total)
		}
	}
	if deepest < 100 {
		t.Errorf("at most %d statements", deepest)
	}
}

func TestP11_7Concatenation(t *testing.T) {
	found := 0
	for _, src := range slices.Concat(sources(31, 400), []api.Source{{}, {Decls: everything().Decls}, {Decls: everything().Decls, Procs: everything().Procs[:3]}}) {
		whole, ok := printed(t, src)
		if !ok {
			continue
		}
		found++
		s, _ := printed(t, api.Source{Decls: src.Decls})
		each := ""
		for _, d := range src.Decls {
			one, _ := printed(t, api.Source{Decls: []api.Decl{d}})
			each += one
		}
		if s != each {
			t.Errorf("P11.7: the declarations of %.300q have the text %.300q", whole, s)
		}
		for _, p := range src.Procs {
			one, ok := printed(t, api.Source{Procs: []api.Proc{p}})
			if !ok {
				t.Fatalf("P11.7: the text of a procedure of %.300q is too long", whole)
			}
			s += one
		}
		if s != whole {
			t.Errorf("P11.7: %.300q instead of %.300q", s, whole)
		}
	}
	if found < 100 {
		t.Errorf("%d sources", found)
	}
}

// TestP11_7Parse puts the texts of declarations and procedures together: they are the source with all of them.
func TestP11_7Parse(t *testing.T) {
	next := randoms(32)
	for range 300 {
		var src api.Source
		decls, procs := "", ""
		for range next(8) {
			d := declSamples[next(len(declSamples))]
			src.Decls = append(src.Decls, d.decl)
			decls += d.text
		}
		for range next(8) {
			p := procSamples[next(len(procSamples))]
			src.Procs = append(src.Procs, p.proc)
			procs += p.text
		}
		if again, at, err := syntax.Parse(decls + procs); !isSame(again, src) || at != 0 || err != api.OK {
			t.Errorf("P11.7: Parse(%.300q): %s, %d, %d", decls+procs, brief(again), at, err)
		}
		if _, at, err := syntax.Parse(procs + decls); procs != "" && decls != "" && (at != len(procs) || err != api.ErrSyntax) {
			t.Errorf("P11.7: Parse(%.300q): %d, %d", procs+decls, at, err)
		}
	}
}
