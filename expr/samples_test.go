package expr_test

import (
	"fmt"
	"math/big"
	"slices"
	"strings"

	"nursery/api"
)

const (
	least    = -1 << 63
	greatest = 1<<63 - 1
	maxInt   = 1 << 40
	maxParts = 100
	maxDepth = 12
)

// randoms returns a function that returns the next number of a fixed sequence, from 0 to n - 1.
func randoms(seed int) func(n int) int {
	x := uint64(seed)
	return func(n int) int {
		x = x*6364136223846793005 + 1442695040888963407
		return int(x >> 20 % uint64(n))
	}
}

func num(value int) api.Expr {
	return api.Expr{Kind: api.NumberExpr, Value: value}
}

func name(s string) api.Expr {
	return api.Expr{Kind: api.NameExpr, Name: s}
}

func un(op int, arg api.Expr) api.Expr {
	return api.Expr{Kind: api.UnaryExpr, Op: op, Args: []api.Expr{arg}}
}

func bin(op int, a, b api.Expr) api.Expr {
	return api.Expr{Kind: api.BinaryExpr, Op: op, Args: []api.Expr{a, b}}
}

// copied returns an expression that shares no memory with e.
func copied(e api.Expr) api.Expr {
	e.Args = slices.Clone(e.Args)
	for i := range e.Args {
		e.Args[i] = copied(e.Args[i])
	}
	return e
}

// longName has as many bytes as a name may have.
var longName = "z" + strings.Repeat("_9a", 9) + "bz"

// names are names in their order.
var names = []string{"a", "a0", "a9", "a_", "a__", "aa", "abc_1_2", "az", "b", "n0123456789", "x", "yield", "z", "z9_", longName}

// noNames are strings that are no names.
var noNames = []string{"", "_", "_a", "9", "9a", "0", "A", "Z", "aB", "Ab", "a b", " a", "a ", "a-b", "a.b", "a\n", "\na", "a\x00", "\x00", "`", "`a", "a`", "{", "{a", "a{", "a/", "a:", "/a", ":a", "a@", "a[", "a^", "é", "aé", "a\xe1", "\xe1", "a\xff", "−", longName + "a", strings.Repeat("a", 31), strings.Repeat("a", 100000)}

// noNumbers are numbers that are no values of numbers; some of them are 0 or 1 when they are cut to fewer bits.
var noNumbers = []int{least, least + 1, -1 << 62, -maxInt - 1, -maxInt, -1 << 32, -256, -2, -1, maxInt + 1, maxInt + 2, 1<<41 + 1, 1 << 62, greatest - 1, greatest}

// noKinds are numbers that are no kinds of expressions.
var noKinds = []int{least, least + 1, -4, -1, 0, 5, 6, 257, 1<<32 + 1, 1<<32 + 4, greatest}

// noOperators are numbers that are no operators.
var noOperators = []int{least, least + 3, -15, -3, -1, 0, 16, 17, 257, 1<<32 + 1, 1<<32 + 3, greatest}

// operator is what the chapter says of an operator: its types are those of its arguments, and its own one; i for integers, b for booleans.
type operator struct {
	sign       string
	precedence int
	types      string
}

// operators are indexed by their numbers.
var operators = []operator{
	{},
	{"-", 6, "i>i"},
	{"!", 6, "b>b"},
	{"+", 4, "ii>i"},
	{"-", 4, "ii>i"},
	{"*", 5, "ii>i"},
	{"/", 5, "ii>i"},
	{"%", 5, "ii>i"},
	{"==", 3, "ii>b bb>b"},
	{"!=", 3, "ii>b bb>b"},
	{"<", 3, "ii>b"},
	{"<=", 3, "ii>b"},
	{">", 3, "ii>b"},
	{">=", 3, "ii>b"},
	{"&&", 2, "bb>b"},
	{"||", 1, "bb>b"},
}

// located is a part of an expression, with its depth, and the indices that lead to it.
type located struct {
	e     api.Expr
	depth int
	path  []int
}

// preorder returns the first n parts of e in preorder.
func preorder(e api.Expr, n int) []located {
	stack := []located{{e, 1, nil}}
	var l []located
	for len(stack) > 0 && len(l) < n {
		top := stack[len(stack)-1]
		stack = stack[:len(stack)-1]
		l = append(l, top)
		for i := min(len(top.e.Args), n) - 1; i >= 0; i-- {
			stack = append(stack, located{top.e.Args[i], top.depth + 1, append(slices.Clone(top.path), i)})
		}
	}
	return l
}

// postorder returns the parts of a valid expression, each behind its Args.
func postorder(e api.Expr) []api.Expr {
	stack := []api.Expr{e}
	var l []api.Expr
	for len(stack) > 0 {
		top := stack[len(stack)-1]
		stack = append(stack[:len(stack)-1], top.Args...)
		l = append(l, top)
	}
	slices.Reverse(l)
	return l
}

// expectedName reports whether s is a name, by the definition.
func expectedName(s string) bool {
	const first = "abcdefghijklmnopqrstuvwxyz"
	return len(s) >= 1 && len(s) <= 30 && strings.Contains(first, s[:1]) && strings.Trim(s, first+"0123456789_") == ""
}

// expectedPart returns the first error of a part, by the definition.
func expectedPart(e api.Expr) api.Errno {
	if e.Kind < 1 || e.Kind > 4 {
		return api.ErrKind
	}
	hasValue, hasName, hasOp, args := e.Kind == 1, e.Kind == 2, e.Kind >= 3, []int{0, 0, 0, 1, 2}[e.Kind]
	switch {
	case !hasValue && e.Value != 0, !hasName && e.Name != "", !hasOp && e.Op != 0, len(e.Args) != args:
		return api.ErrArgument
	case hasValue && (e.Value < 0 || e.Value > maxInt):
		return api.ErrRange
	case hasName && !expectedName(e.Name):
		return api.ErrName
	case e.Kind == 3 && e.Op != 1 && e.Op != 2, e.Kind == 4 && (e.Op < 3 || e.Op > 15):
		return api.ErrKind
	}
	return api.OK
}

// expectedCheck returns what Check returns, by the definition.
func expectedCheck(e api.Expr) api.Errno {
	l := preorder(e, maxParts+1)
	if len(l) > maxParts {
		return api.ErrLimit
	}
	for _, part := range l {
		if part.depth > maxDepth {
			return api.ErrDepth
		}
	}
	for _, part := range l {
		if err := expectedPart(part.e); err != api.OK {
			return err
		}
	}
	return api.OK
}

// expectedNames returns the names of a valid expression.
func expectedNames(e api.Expr) []string {
	set := map[string]bool{}
	for _, part := range postorder(e) {
		if part.Kind == 2 {
			set[part.Name] = true
		}
	}
	var l []string
	for s := range set {
		l = append(l, s)
	}
	slices.Sort(l)
	return l
}

// expectedBindings reports whether l is a list of valid bindings, by the definition.
func expectedBindings(l []api.Binding) bool {
	for i, b := range l {
		isInt := b.Type == 1 && b.Value >= -maxInt && b.Value <= maxInt
		isBool := b.Type == 2 && (b.Value == 0 || b.Value == 1)
		if !expectedName(b.Name) || !isInt && !isBool {
			return false
		}
		for _, c := range l[:i] {
			if c.Name >= b.Name {
				return false
			}
		}
	}
	return len(l) <= 64
}

func lookup(l []api.Binding, s string) (api.Binding, bool) {
	for _, b := range l {
		if b.Name == s {
			return b, true
		}
	}
	return api.Binding{}, false
}

// expectedType returns what Type returns: a machine with a stack of types performs the parts.
func expectedType(e api.Expr, l []api.Binding) (int, api.Errno) {
	if err := expectedCheck(e); err != api.OK {
		return 0, err
	}
	if !expectedBindings(l) {
		return 0, api.ErrArgument
	}
	stack := ""
	for _, part := range postorder(e) {
		switch part.Kind {
		case 1:
			stack += "i"
		case 2:
			b, found := lookup(l, part.Name)
			if !found {
				return 0, api.ErrNotFound
			}
			stack += "?ib"[b.Type : b.Type+1]
		default:
			below := len(stack) - len(part.Args)
			_, after, found := strings.Cut(" "+operators[part.Op].types, " "+stack[below:]+">")
			if !found {
				return 0, api.ErrType
			}
			stack = stack[:below] + after[:1]
		}
	}
	return strings.Index("?ib", stack), api.OK
}

// integers are what is computed with: they do not overflow.
func integer(x int) *big.Int {
	return big.NewInt(int64(x))
}

func truth(x bool) *big.Int {
	if x {
		return integer(1)
	}
	return integer(0)
}

// compute returns the value of an operator for its arguments, by the definition.
func compute(op int, args []*big.Int) (*big.Int, api.Errno) {
	a, b, r := args[0], args[len(args)-1], new(big.Int)
	switch op {
	case api.NegOp:
		r.Neg(a)
	case api.NotOp:
		r = truth(a.Sign() == 0)
	case api.PlusOp:
		r.Add(a, b)
	case api.MinusOp:
		r.Sub(a, b)
	case api.TimesOp:
		r.Mul(a, b)
	case api.DivideOp, api.ModuloOp:
		if b.Sign() == 0 {
			return nil, api.ErrDivide
		}
		quotient, remainder := new(big.Int).QuoRem(a, b, new(big.Int))
		r = quotient
		if op == api.ModuloOp {
			r = remainder
		}
	case api.EqualOp, api.UnequalOp:
		r = truth((a.Cmp(b) == 0) == (op == api.EqualOp))
	case api.LessOp, api.GreaterEqOp:
		r = truth((a.Cmp(b) < 0) == (op == api.LessOp))
	case api.GreaterOp, api.LessEqualOp:
		r = truth((a.Cmp(b) > 0) == (op == api.GreaterOp))
	case api.AndOp:
		r = truth(a.Sign()*b.Sign() != 0)
	case api.OrOp:
		r = truth(a.Sign()+b.Sign() != 0)
	}
	if r.CmpAbs(integer(maxInt)) > 0 {
		return nil, api.ErrOverflow
	}
	return r, api.OK
}

// expectedEval returns what Eval returns: a machine with a stack of values performs the parts.
func expectedEval(e api.Expr, l []api.Binding) (int, api.Errno) {
	if _, err := expectedType(e, l); err != api.OK {
		return 0, err
	}
	var stack []*big.Int
	for _, part := range postorder(e) {
		switch part.Kind {
		case 1:
			stack = append(stack, integer(part.Value))
		case 2:
			b, _ := lookup(l, part.Name)
			stack = append(stack, integer(b.Value))
		default:
			below := len(stack) - len(part.Args)
			value, err := compute(part.Op, stack[below:])
			if err != api.OK {
				return 0, err
			}
			stack = append(stack[:below], value)
		}
	}
	return int(stack[0].Int64()), api.OK
}

// expectedFold returns what Fold returns for a valid expression, and its value if it can be folded to one. It works from the inside: an operator can be folded if all its arguments can be folded to values, and it makes an integer of them.
func expectedFold(e api.Expr) (api.Expr, *big.Int) {
	if e.Kind == 1 {
		return e, integer(e.Value)
	}
	folded := e
	folded.Args = nil
	var values []*big.Int
	for _, arg := range e.Args {
		x, value := expectedFold(arg)
		folded.Args = append(folded.Args, x)
		if value != nil {
			values = append(values, value)
		}
	}
	if len(e.Args) == 0 || len(values) < len(e.Args) || !strings.HasPrefix(operators[e.Op].types, "iii>i"[3-len(values):]) {
		return folded, nil
	}
	value, err := compute(e.Op, values)
	switch {
	case err != api.OK:
		return folded, nil
	case value.Sign() < 0:
		return un(api.NegOp, num(-int(value.Int64()))), value
	}
	return num(int(value.Int64())), value
}

// expectedText returns the text of a valid expression: a machine with a stack of texts and their precedences performs the parts.
func expectedText(e api.Expr) string {
	type piece struct {
		text       string
		precedence int
	}
	var stack []piece
	for _, part := range postorder(e) {
		switch part.Kind {
		case 1:
			stack = append(stack, piece{fmt.Sprint(part.Value), 7})
		case 2:
			stack = append(stack, piece{part.Name, 7})
		default:
			o := operators[part.Op]
			below := len(stack) - len(part.Args)
			args := stack[below:]
			isComparison := o.precedence == 3
			for i := range args {
				second := i == 1
				if p := args[i].precedence; p < o.precedence || p == o.precedence && (second || isComparison) {
					args[i].text = "(" + args[i].text + ")"
				}
			}
			text := o.sign + args[0].text
			if len(args) == 2 {
				text = args[0].text + " " + o.sign + " " + args[1].text
			}
			stack = append(stack[:below], piece{text, o.precedence})
		}
	}
	return stack[0].text
}
