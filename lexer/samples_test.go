package lexer_test

import (
	"slices"
	"strconv"
	"strings"
	"sync"

	"nursery/api"
)

// randoms returns a function that returns the next number of a fixed sequence, from 0 to n - 1.
func randoms(seed int) func(n int) int {
	x := uint64(seed)
	return func(n int) int {
		x = x*6364136223846793005 + 1442695040888963407
		return int(x >> 20 % uint64(n))
	}
}

func num(value int) api.Expr {
	return api.Expr{Kind: api.NumberExpr, Value: value}
}

func name(s string) api.Expr {
	return api.Expr{Kind: api.NameExpr, Name: s}
}

func un(op int, arg api.Expr) api.Expr {
	return api.Expr{Kind: api.UnaryExpr, Op: op, Args: []api.Expr{arg}}
}

func bin(op int, a, b api.Expr) api.Expr {
	return api.Expr{Kind: api.BinaryExpr, Op: op, Args: []api.Expr{a, b}}
}

// longName has as many bytes as a name may have.
var longName = "z" + strings.Repeat("_9a", 9) + "bz"

// names are names that are not reserved, many of them nearly.
var names = []string{"a", "b", "x", "z", "a0", "a9", "a_", "a__", "aa", "az", "z9_", "abc_1_2", longName, "i", "iff", "if_", "if0", "xif", "i_f", "lets", "le", "yields", "yiel", "readlocks", "lock_", "o", "int", "main", "n", "e", "or", "and", "not", "true", "false", "for", "try", "object", "condvar", "acquires", "waits"}

// numbers are the texts of numbers.
var numbers = []string{"0", "1", "2", "7", "9", "10", "19", "90", "99", "100", "255", "256", "4294967295", "4294967296", "1099511627775", "1099511627776", "1000000000000", "999999999999"}

// gaps are what can stand between tokens.
var gaps = []string{"", " ", "\t", "\n", "  ", " \t\n ", "#\n", "##\n", "# a comment\n", "\n# 1a 00 & | é \xff \r \x00 $ \" A #\n", " #x+1\n\t#)\n ", "#" + strings.Repeat("y", 40) + "\n"}

// isWordByte reports whether c can be in a name.
func isWordByte(c byte) bool {
	return strings.IndexByte("abcdefghijklmnopqrstuvwxyz0123456789_", c) >= 0
}

// areGlued reports whether two tokens are not those two without something between them.
func areGlued(a, b string) bool {
	return isWordByte(a[len(a)-1]) && isWordByte(b[0]) || b[0] == '=' && len(a) == 1 && strings.Contains("=!<>", a)
}

// laidOut returns the texts of tokens with gaps between them, and the offsets of the tokens and of the end.
func laidOut(next func(int) int, texts []string) (string, []int) {
	var s strings.Builder
	var offsets []int
	for i, text := range texts {
		gap := gaps[next(len(gaps))]
		if next(3) > 0 {
			gap = gaps[next(2)]
		}
		if i > 0 && gap == "" && areGlued(texts[i-1], text) {
			gap = gaps[1+next(len(gaps)-1)]
		}
		s.WriteString(gap)
		offsets = append(offsets, s.Len())
		s.WriteString(text)
	}
	s.WriteString(gaps[next(len(gaps))])
	// A comment at the end needs no line feed.
	text := s.String()
	if next(2) == 0 {
		text = strings.TrimSuffix(text, "\n")
	}
	return text, append(offsets, len(text))
}

// texts returns the texts of some tokens.
func texts(next func(int) int, n int) []string {
	var l []string
	for range n {
		some := [][]string{names, numbers, signs, reserved}[min(next(8)/2, 3)]
		l = append(l, some[next(len(some))])
	}
	return l
}

// random returns a valid expression, or one that is too large, of at most a depth.
func random(next func(int) int, depth int) api.Expr {
	if depth == 1 || next(5) == 0 {
		if next(2) == 0 {
			return name(names[next(len(names))])
		}
		x, _ := strconv.Atoi(numbers[next(len(numbers))])
		return num(x)
	}
	if next(4) == 0 {
		return un(1+next(2), random(next, depth-1))
	}
	o := operators[next(len(operators))]
	return bin(o.op, random(next, depth-1), random(next, depth-1))
}

// pairs returns all expressions with two operators.
func pairs() []api.Expr {
	a, b, c := name("a"), num(1), name("c")
	var all []api.Expr
	for op := 1; op <= 2; op++ {
		all = append(all, un(op, a), un(op, un(1, a)), un(op, un(2, a)))
		for _, o := range operators {
			all = append(all, un(op, bin(o.op, a, b)), bin(o.op, un(op, a), b), bin(o.op, a, un(op, b)))
		}
	}
	for _, o := range operators {
		all = append(all, bin(o.op, a, b))
		for _, p := range operators {
			all = append(all, bin(o.op, bin(p.op, a, b), c), bin(o.op, a, bin(p.op, b, c)))
		}
	}
	return all
}

// chain returns an expression of a depth: operations, each of which is the argument of the next one with an index.
func chain(op, depth, index int, leaf api.Expr) api.Expr {
	e := leaf
	for range depth - 1 {
		switch {
		case op <= api.NotOp:
			e = un(op, e)
		case index == 0:
			e = bin(op, e, leaf)
		default:
			e = bin(op, leaf, e)
		}
	}
	return e
}

// filled returns an expression with n parts, which is as flat as possible.
func filled(op, n int, leaf api.Expr) api.Expr {
	switch n {
	case 1:
		return leaf
	case 2:
		return un(api.NegOp, leaf)
	}
	left := (n - 1) / 2
	return bin(op, filled(op, left, leaf), filled(op, n-1-left, leaf))
}

// valid returns valid expressions without reserved names.
var valid = sync.OnceValue(func() []api.Expr {
	l := pairs()
	for _, s := range names {
		l = append(l, name(s), un(api.NotOp, name(s)), bin(api.ModuloOp, name(s), name("x")))
	}
	for _, s := range numbers {
		x, _ := strconv.Atoi(s)
		l = append(l, num(x), un(api.NegOp, num(x)), bin(api.LessOp, num(x), num(x)))
	}
	for op := api.NegOp; op <= api.OrOp; op++ {
		for _, depth := range []int{2, 3, 11, 12} {
			l = append(l, chain(op, depth, 0, name("x")), chain(op, depth, 1, num(3)))
		}
	}
	for _, o := range operators {
		for n := 95; n <= 100; n++ {
			l = append(l, filled(o.op, n, num(maxInt)), filled(o.op, n, name(longName)))
		}
	}
	next := randoms(1)
	for n := 0; n < 4000; {
		if e := random(next, 1+next(12)); expectedCheck(e) == api.OK {
			l = append(l, e)
			n++
		}
	}
	return l
})

// oversized returns expressions that are too deep or too large.
func oversized() []api.Expr {
	var l []api.Expr
	for op := api.NegOp; op <= api.OrOp; op++ {
		for _, depth := range []int{13, 14, 40, 101, 300} {
			l = append(l, chain(op, depth, 0, name("x")), chain(op, depth, 1, num(3)))
		}
	}
	for _, o := range operators {
		for _, n := range []int{101, 102, 250} {
			l = append(l, filled(o.op, n, num(4)))
		}
	}
	return l
}

// precedenceOf returns the precedence of an expression.
func precedenceOf(e api.Expr) int {
	switch e.Kind {
	case api.UnaryExpr:
		return 6
	case api.BinaryExpr:
		return operators[e.Op-3].precedence
	}
	return 7
}

// loose returns the texts of the tokens of e, with more parentheses than needed: with 0 as extra all that are possible, otherwise one of several.
func loose(next func(int) int, e api.Expr, extra int) []string {
	argument := func(i int) []string {
		inside, outside := precedenceOf(e.Args[i]), precedenceOf(e)
		l := loose(next, e.Args[i], extra)
		if inside < outside || inside == outside && (i == 1 || outside == 3) || next(1+extra) == 0 {
			return slices.Concat([]string{"("}, l, []string{")"})
		}
		return l
	}
	switch e.Kind {
	case api.NumberExpr:
		return []string{strconv.Itoa(e.Value)}
	case api.NameExpr:
		return []string{e.Name}
	case api.UnaryExpr:
		return append([]string{"-!"[e.Op-1 : e.Op]}, argument(0)...)
	}
	return slices.Concat(argument(0), []string{operators[e.Op-3].sign}, argument(1))
}

// spoiled returns the texts of tokens after some changes, which hardly ever leave an expression.
func spoiled(next func(int) int, l []string) []string {
	l = slices.Clone(l)
	for range 1 + next(2) {
		i := next(len(l) + 1)
		switch next(4) {
		case 0:
			l = slices.Delete(l, min(i, len(l)-1), min(i, len(l)-1)+1)
		case 1:
			l = slices.Insert(l, i, texts(next, 1)...)
		case 2:
			l = append(l[:i:i], texts(next, 3)...)
		case 3:
			l[min(i, len(l)-1)] = []string{"(", ")", "-", "+", "<", "==", "&&", "if", "=", "!", ";", "x"}[next(12)]
		}
		if len(l) == 0 {
			return []string{"=", "1"}
		}
	}
	return l
}

// alphabet has tokens of all sorts that make a difference.
var alphabet = []api.Token{
	{Kind: 1, Text: "x"}, {Kind: 2, Text: "5", Value: 5}, {Kind: 3, Text: "-"}, {Kind: 3, Text: "!"}, {Kind: 3, Text: "("}, {Kind: 3, Text: ")"},
	{Kind: 3, Text: "*"}, {Kind: 3, Text: "+"}, {Kind: 3, Text: "<"}, {Kind: 3, Text: "=="}, {Kind: 3, Text: "&&"}, {Kind: 3, Text: "||"}, {Kind: 1, Text: "if"},
}

// noOperands are tokens that are no operands, and that no operand begins with.
var noOperands = []api.Token{
	{}, {Kind: 0, Text: "x"}, {Kind: 0, Text: "5", Value: 5}, {Kind: 4, Text: "x"}, {Kind: 4, Text: "5", Value: 5}, {Kind: -1, Text: "x"}, {Kind: 257, Text: "x"}, {Kind: 1<<32 + 1, Text: "x"}, {Kind: 1<<32 + 2, Text: "5", Value: 5}, {Kind: least, Text: "x"}, {Kind: greatest, Text: "x"},
	{Kind: 1}, {Kind: 1, Text: "X"}, {Kind: 1, Text: "_"}, {Kind: 1, Text: "_a"}, {Kind: 1, Text: "1"}, {Kind: 1, Text: "5", Value: 5}, {Kind: 1, Text: "1a"}, {Kind: 1, Text: "aB"}, {Kind: 1, Text: "a b"}, {Kind: 1, Text: " a"}, {Kind: 1, Text: "a\n"}, {Kind: 1, Text: "é"}, {Kind: 1, Text: "a\xff"}, {Kind: 1, Text: "("}, {Kind: 1, Text: "-"}, {Kind: 1, Text: "!"}, {Kind: 1, Text: longName + "a"}, {Kind: 1, Text: strings.Repeat("a", 31)}, {Kind: 1, Text: strings.Repeat("a", 100000)},
	{Kind: 2}, {Kind: 2, Text: "5"}, {Kind: 2, Text: "5", Value: 6}, {Kind: 2, Value: 5}, {Kind: 2, Text: "05", Value: 5}, {Kind: 2, Text: "00"}, {Kind: 2, Text: "+5", Value: 5}, {Kind: 2, Text: "-5", Value: -5}, {Kind: 2, Text: "-1", Value: -1}, {Kind: 2, Text: "-0"}, {Kind: 2, Text: " 5", Value: 5}, {Kind: 2, Text: "5 ", Value: 5}, {Kind: 2, Text: "5\x00", Value: 5}, {Kind: 2, Text: "0x5", Value: 5}, {Kind: 2, Text: "1_0", Value: 10}, {Kind: 2, Text: "x", Value: 5}, {Kind: 2, Text: "("}, {Kind: 2, Text: "-"}, {Kind: 2, Text: "x"},
	{Kind: 2, Text: "1099511627777", Value: maxInt + 1}, {Kind: 2, Text: "9223372036854775807", Value: greatest}, {Kind: 2, Text: "-9223372036854775808", Value: least}, {Kind: 2, Text: "4294967301", Value: 5}, {Kind: 2, Text: "18446744073709551621", Value: 5}, {Kind: 2, Text: strings.Repeat("9", 5000), Value: 9},
	{Kind: 3}, {Kind: 3, Text: "x"}, {Kind: 3, Text: "5", Value: 5}, {Kind: 3, Text: "="}, {Kind: 3, Text: "{"}, {Kind: 3, Text: "}"}, {Kind: 3, Text: ","}, {Kind: 3, Text: ";"}, {Kind: 3, Text: "- "}, {Kind: 3, Text: "--"}, {Kind: 3, Text: "(("}, {Kind: 3, Text: "!!"}, {Kind: 3, Text: ")"}, {Kind: 3, Text: "&"},
	{Kind: 0, Text: "("}, {Kind: 0, Text: "-"}, {Kind: 4, Text: "("}, {Kind: 4, Text: "!"}, {Kind: -3, Text: "-"}, {Kind: 259, Text: "("}, {Kind: 1<<32 + 3, Text: "-"},
}

// noFollowers are tokens that cannot follow an operand, outside of parentheses.
var noFollowers = slices.Concat([]api.Token{
	{Kind: 1, Text: "x"}, {Kind: 2, Text: "5", Value: 5}, {Kind: 3, Text: "("}, {Kind: 3, Text: "!"}, {Kind: 3, Text: "&"}, {Kind: 3, Text: "|"}, {Kind: 3, Text: "+ "}, {Kind: 3, Text: " +"}, {Kind: 3, Text: "++"}, {Kind: 3, Text: "<<"}, {Kind: 3, Text: "==="}, {Kind: 3, Text: "&&&"},
	{Kind: 0, Text: "+"}, {Kind: 1, Text: "+"}, {Kind: 2, Text: "+"}, {Kind: 4, Text: "+"}, {Kind: -3, Text: "+"}, {Kind: 259, Text: "*"}, {Kind: 1<<32 + 3, Text: "<"}, {Kind: 0, Text: "<"}, {Kind: 1, Text: "=="}, {Kind: 2, Text: "||"},
}, noOperands)

// lists calls a function with all lists of n elements of l.
func lists[T any](l []T, n int, f func([]T)) {
	list := make([]T, n)
	var fill func(i int)
	fill = func(i int) {
		if i == n {
			f(list)
			return
		}
		for _, x := range l {
			list[i] = x
			fill(i + 1)
		}
	}
	fill(0)
}
