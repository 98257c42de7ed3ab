package expr_test

import (
	"slices"
	"sync"

	"nursery/api"
)

// grown returns the expressions of l, and those that consist of one operator and expressions of l; one of two arguments is one of a few of them.
func grown(l []api.Expr, few int) []api.Expr {
	isFew := func(i int) bool { return i*few/len(l) != (i+1)*few/len(l) }
	all := slices.Clone(l)
	for i, a := range l {
		all = append(all, un(api.NegOp, a), un(api.NotOp, a))
		for op := api.PlusOp; op <= api.OrOp; op++ {
			for j, b := range l {
				if isFew(i) || isFew(j) {
					all = append(all, bin(op, a, b))
				}
			}
		}
	}
	return all
}

// small returns all expressions of a depth of at most 2 with some numbers and names.
var small = sync.OnceValue(func() []api.Expr {
	return grown([]api.Expr{num(0), num(1), num(7), num(maxInt), name("b"), name("c"), name("x"), name("y")}, 8)
})

// constants returns expressions of a depth of at most 3 with some numbers.
var constants = sync.OnceValue(func() []api.Expr {
	return grown(grown([]api.Expr{num(0), num(3)}, 2), 10)
})

// many returns expressions of a depth of at most 3 with a number, an integer and a boolean.
var many = sync.OnceValue(func() []api.Expr {
	return grown(grown([]api.Expr{num(2), name("b"), name("x")}, 3), 13)
})

// number returns a number, which is small in most cases.
func number(next func(int) int) api.Expr {
	if next(8) == 0 {
		return num([]int{0, 1, maxInt - 1, maxInt, 1 << 20, 1<<20 - 1, 1<<20 + 1, 1 << 32, 1 << 39}[next(9)])
	}
	return num(next(12))
}

// typed returns an expression of a type and at most a depth, with the integers x and y, and the booleans b and c.
func typed(next func(int) int, kind, depth int) api.Expr {
	if depth == 1 || next(6) == 0 {
		if kind == api.BoolType {
			return name([]string{"b", "c"}[next(2)])
		}
		if next(2) == 0 {
			return name([]string{"x", "y"}[next(2)])
		}
		return number(next)
	}
	ops := []int{1, 1, 3, 4, 5, 6, 7}
	if kind == api.BoolType {
		ops = []int{2, 2, 8, 8, 9, 10, 11, 12, 13, 14, 14, 15, 15}
	}
	op, args := ops[next(len(ops))], api.IntType
	if op == api.NotOp || op >= api.AndOp || op <= api.UnequalOp && op >= api.EqualOp && next(3) == 0 {
		args = api.BoolType
	}
	a := typed(next, args, depth-1)
	if op <= api.NotOp {
		return un(op, a)
	}
	return bin(op, a, typed(next, args, depth-1))
}

// untyped returns an expression of at most a depth; hardly any has a type if it is large.
func untyped(next func(int) int, depth int) api.Expr {
	if depth == 1 || next(4) == 0 {
		if next(3) == 0 {
			return number(next)
		}
		return name([]string{"b", "c", "x", "y", "zz"}[next(5)])
	}
	a := untyped(next, depth-1)
	if op := 1 + next(15); op >= api.PlusOp {
		return bin(op, a, untyped(next, depth-1))
	}
	return un(1+next(2), a)
}

// scattered returns valid expressions of all depths, most of them with a type.
var scattered = sync.OnceValue(func() []api.Expr {
	next := randoms(1)
	var all []api.Expr
	for len(all) < 2000 {
		e := typed(next, 1+next(2), 1+next(maxDepth))
		if next(4) == 0 {
			e = untyped(next, 1+next(maxDepth))
		}
		if expectedCheck(e) == api.OK {
			all = append(all, e)
		}
	}
	return all
})

// chain returns an expression of a depth: a leaf in operations, each of which is the argument of the next one with an index.
func chain(op, depth, index int, leaf api.Expr) api.Expr {
	e := leaf
	for range depth - 1 {
		switch {
		case op <= api.NotOp:
			e = un(op, e)
		case index == 0:
			e = bin(op, e, leaf)
		default:
			e = bin(op, leaf, e)
		}
	}
	return e
}

// filled returns an expression with n parts, which is as flat as possible.
func filled(op, n int, leaf api.Expr) api.Expr {
	switch n {
	case 1:
		return leaf
	case 2:
		return un(api.NegOp, leaf)
	}
	left := (n - 1) / 2
	return bin(op, filled(op, left, leaf), filled(op, n-1-left, leaf))
}

// limits returns valid expressions that are as deep or as large as possible, or have special numbers and names.
var limits = sync.OnceValue(func() []api.Expr {
	var all []api.Expr
	for _, s := range names {
		all = append(all, name(s), un(api.NotOp, name(s)), bin(api.ModuloOp, name(s), name("x")))
	}
	for _, x := range []int{0, 1, 9, 10, 255, 256, 1<<31 - 1, 1 << 31, 1 << 32, maxInt - 1, maxInt} {
		all = append(all, num(x), un(api.NegOp, num(x)), bin(api.LessOp, name("x"), num(x)))
	}
	for op := api.NegOp; op <= api.OrOp; op++ {
		for _, leaf := range []api.Expr{num(1), name("x"), name("b")} {
			all = append(all, chain(op, maxDepth-1, 0, leaf), chain(op, maxDepth, 0, leaf), chain(op, maxDepth, 1, leaf))
		}
	}
	for op := api.PlusOp; op <= api.OrOp; op++ {
		for n := maxParts - 3; n <= maxParts; n++ {
			all = append(all, filled(op, n, num(1)), filled(op, n, name("x")), filled(op, n, name("b")))
		}
	}
	return all
})

// mixed returns valid expressions, most of them with names.
var mixed = sync.OnceValue(func() []api.Expr {
	return slices.Concat(small(), scattered(), limits())
})

// valid returns valid expressions.
var valid = sync.OnceValue(func() []api.Expr {
	return slices.Concat(mixed(), constants(), many())
})

// at returns the part of e to which the indices lead.
func at(e *api.Expr, path []int) *api.Expr {
	for _, i := range path {
		e = &e.Args[i]
	}
	return e
}

// spoilings returns changes of a part, after which it is not valid.
func spoilings() []func(*api.Expr) {
	var all []func(*api.Expr)
	for _, x := range noKinds {
		all = append(all, func(e *api.Expr) { e.Kind = x })
	}
	for _, x := range noNumbers {
		all = append(all, func(e *api.Expr) { e.Value = x })
	}
	for _, x := range noOperators {
		all = append(all, func(e *api.Expr) { e.Kind, e.Op = 3+len(e.Args)/2, x })
	}
	for _, s := range noNames {
		all = append(all, func(e *api.Expr) { *e = name(s) })
	}
	return append(all,
		func(e *api.Expr) { *e = api.Expr{} },
		func(e *api.Expr) { e.Kind = 5 - e.Kind },
		func(e *api.Expr) { e.Kind, e.Op = 7-max(e.Kind, 3), 1+len(e.Args) },
		func(e *api.Expr) { *e = un(api.PlusOp, num(1)) },
		func(e *api.Expr) { *e = un(api.OrOp, name("b")) },
		func(e *api.Expr) { *e = bin(api.NegOp, num(1), num(2)) },
		func(e *api.Expr) { *e = bin(api.NotOp, name("b"), name("b")) },
		func(e *api.Expr) { e.Op, e.Value = e.Op+1, e.Value+1 },
		func(e *api.Expr) { e.Value, e.Name = e.Value+1, e.Name+"a" },
		func(e *api.Expr) { e.Name, e.Op = e.Name+"a", e.Op+1 },
		func(e *api.Expr) { e.Args = append(e.Args, num(1), num(2), num(3)) },
		func(e *api.Expr) { e.Args = append(e.Args, api.Expr{}, num(-1), name("")) },
		func(e *api.Expr) { e.Args = append(slices.Clone(e.Args), num(0))[len(e.Args)/2:]; e.Kind = 1 },
		func(e *api.Expr) { e.Args = nil; e.Op = 4; e.Kind = 4 },
		func(e *api.Expr) { e.Args = nil; e.Op = 1; e.Kind = 3 },
	)
}

// spoiled returns expressions that are not valid: valid ones of which one part, or two of them, were changed. Each change is made many times.
func spoiled() []api.Expr {
	next := randoms(2)
	changes := spoilings()
	var all []api.Expr
	for i, e := range slices.Concat(scattered()[:1000], limits(), small()) {
		for k := range 6 {
			wrong := copied(e)
			l := preorder(wrong, maxParts)
			changes[(6*i+k)%len(changes)](at(&wrong, l[next(len(l))].path))
			all = append(all, wrong)
			if next(3) == 0 {
				twice := copied(wrong)
				l = preorder(twice, maxParts)
				changes[next(len(changes))](at(&twice, l[next(len(l))].path))
				all = append(all, twice)
			}
		}
	}
	return all
}

// oversized returns expressions that are too deep or too large, with and without other errors.
func oversized() []api.Expr {
	var all []api.Expr
	for op := api.NegOp; op <= api.OrOp; op++ {
		for _, leaf := range []api.Expr{num(1), name("x"), {}, num(-1)} {
			for _, depth := range []int{maxDepth + 1, maxDepth + 2, maxParts/2 - 1, maxParts/2 + 1, maxParts, maxParts + 1, 1000} {
				all = append(all, chain(op, depth, 0, leaf), chain(op, depth, 1, leaf))
			}
		}
	}
	for _, leaf := range []api.Expr{num(1), name("b"), {}, num(-1)} {
		for _, n := range []int{maxParts + 1, maxParts + 2, 3 * maxParts} {
			all = append(all, filled(api.PlusOp, n, leaf), filled(api.AndOp, n, leaf))
		}
		for _, n := range []int{maxParts - 2, maxParts - 1, maxParts, maxParts + 1, 5000} {
			for kind := -1; kind <= 5; kind++ {
				all = append(all, api.Expr{Kind: kind, Args: slices.Repeat([]api.Expr{leaf}, n)})
			}
		}
	}
	return all
}

// endless returns expressions that contain themselves, or one expression very often.
func endless() []api.Expr {
	var all []api.Expr
	for kind := -1; kind <= 5; kind++ {
		for _, size := range []int{1, 2, 3, 200} {
			args := make([]api.Expr, size)
			for i := range args {
				args[i] = api.Expr{Kind: kind, Op: max(1, 3*kind-9), Args: args}
			}
			all = append(all, args[0])
			args = slices.Repeat([]api.Expr{num(1)}, size)
			args[size-1] = api.Expr{Kind: kind, Op: max(1, 3*kind-9), Args: args}
			all = append(all, args[size-1])
		}
	}
	one, other := make([]api.Expr, 2), make([]api.Expr, 2)
	for i := range one {
		one[i], other[i] = api.Expr{Kind: 4, Op: 3, Args: other}, api.Expr{Kind: 4, Op: 5, Args: one}
	}
	doubled, flat := name("x"), num(1)
	for range 60 {
		doubled, flat = bin(api.TimesOp, doubled, doubled), api.Expr{Kind: 9, Args: slices.Repeat([]api.Expr{flat}, 64)}
	}
	return append(all, one[0], other[1], bin(api.PlusOp, num(1), one[0]), bin(api.PlusOp, one[0], name("x")), un(api.NegOp, other[0]), doubled, flat)
}

// invalid returns expressions that are not valid, but for those that are too large, or endless.
var invalid = sync.OnceValue(func() []api.Expr {
	return slices.DeleteFunc(slices.Concat(spoiled(), oversized()), func(e api.Expr) bool { return expectedCheck(e) == api.OK })
})

// environments returns lists of valid bindings.
func environments() [][]api.Binding {
	all := [][]api.Binding{
		nil,
		{{Name: "b", Type: 2, Value: 1}, {Name: "c", Type: 2}, {Name: "x", Type: 1, Value: 7}, {Name: "y", Type: 1, Value: -2}},
		{{Name: "b", Type: 2}, {Name: "c", Type: 2}, {Name: "x", Type: 1}, {Name: "y", Type: 1}, {Name: "zz", Type: 1, Value: 3}},
		{{Name: "b", Type: 2, Value: 1}, {Name: "c", Type: 2, Value: 1}, {Name: "x", Type: 1, Value: maxInt}, {Name: "y", Type: 1, Value: -maxInt}},
		{{Name: "b", Type: 2}, {Name: "c", Type: 2, Value: 1}, {Name: "x", Type: 1, Value: -3}, {Name: "y", Type: 1, Value: 3}, {Name: "zz", Type: 2, Value: 1}},
		{{Name: "b", Type: 1, Value: 5}, {Name: "c", Type: 2, Value: 1}, {Name: "x", Type: 2, Value: 1}, {Name: "y", Type: 1, Value: 1}},
		{{Name: "b", Type: 2, Value: 1}, {Name: "x", Type: 1, Value: 1 << 20}},
	}
	full := all[1]
	for i := 0; len(full) < 64; i++ {
		full = append(full, api.Binding{Name: "z" + string(rune('0'+i/10)) + string(rune('0'+i%10)), Type: 1 + i%2, Value: i % 2})
	}
	return append(all, full)
}

// wrongBindings returns lists that are no valid bindings.
func wrongBindings() [][]api.Binding {
	var all [][]api.Binding
	good := environments()[1]
	full := environments()[7]
	for i := range good {
		change := func(by func(*api.Binding)) {
			wrong := slices.Clone(good)
			by(&wrong[i])
			all = append(all, wrong)
		}
		for _, s := range noNames {
			change(func(b *api.Binding) { b.Name = s })
		}
		for _, kind := range []int{least, -1, 0, 3, 257, 258, 1<<32 + 1, greatest} {
			change(func(b *api.Binding) { b.Type = kind })
			change(func(b *api.Binding) { b.Type, b.Value = kind, 1 })
		}
		for _, x := range []int{least, least + 1, -maxInt - 1, maxInt + 1, 1 << 62, greatest} {
			change(func(b *api.Binding) { b.Value = x })
			change(func(b *api.Binding) { b.Type, b.Value = 1, x })
		}
		for _, x := range []int{least, -maxInt, -1, 2, 3, 256, 257, 1 << 32, 1<<32 + 1, maxInt} {
			change(func(b *api.Binding) { b.Type, b.Value = 2, x })
		}
		change(func(b *api.Binding) { *b = api.Binding{} })
		for j := range i {
			change(func(b *api.Binding) { b.Name = good[j].Name })
			change(func(b *api.Binding) { *b = good[j] })
			change(func(b *api.Binding) { *b = api.Binding{Name: "a", Type: 1} })
		}
	}
	return append(all,
		append(slices.Clone(full), api.Binding{Name: "zz", Type: 1}),
		slices.Repeat(good, 1000),
		[]api.Binding{{}},
		make([]api.Binding, 65),
		[]api.Binding{{Name: "x", Type: 1}, {Name: "x", Type: 1}},
		[]api.Binding{{Name: "x9", Type: 1}, {Name: "x", Type: 1}},
		[]api.Binding{{Name: "b", Type: 1}, {Name: "y", Type: 1}, {Name: "x", Type: 1}},
	)
}
