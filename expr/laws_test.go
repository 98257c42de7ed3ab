package expr_test

import (
	"math"
	"slices"
	"strconv"
	"testing"

	"nursery/api"
	"nursery/expr"
)

func decimal(x int) string {
	return strconv.Itoa(x)
}

// eval returns a value that must be there.
func eval(t *testing.T, e api.Expr, l []api.Binding) int {
	t.Helper()
	x, err := expr.Eval(e, l)
	if err != api.OK {
		t.Fatalf("Eval(%s, %v): %d, %d", expectedText(e), l, x, err)
	}
	return x
}

// TestP9_2Types has expressions that have a type.
func TestP9_2Types(t *testing.T) {
	values := map[int]int{}
	for _, e := range mixed() {
		for _, l := range environments() {
			kind, err := expr.Type(e, l)
			if err != api.OK {
				if x, evalErr := expr.Eval(e, l); x != 0 || evalErr != err {
					t.Errorf("P9.2: %s has no type (%d), but the value %d, %d", expectedText(e), err, x, evalErr)
				}
				continue
			}
			x, err := expr.Eval(e, l)
			if err != api.OK && err != api.ErrDivide && err != api.ErrOverflow {
				t.Errorf("P9.2: %s has the type %d, but the error %d", expectedText(e), kind, err)
			}
			if x < -maxInt || x > maxInt || kind == api.BoolType && x != 0 && x != 1 {
				t.Errorf("P9.2: %s has the type %d, but the value %d", expectedText(e), kind, x)
			}
			if kind == api.BoolType && err == api.OK {
				values[x]++
			}
		}
	}
	if values[0] < 1000 || values[1] < 1000 {
		t.Errorf("boolean values: %d", values)
	}
}

// TestP9_2Names changes the values of names, but not their types.
func TestP9_2Names(t *testing.T) {
	next := randoms(5)
	for _, e := range mixed() {
		for _, l := range environments() {
			kind, err := expr.Type(e, l)
			changed := slices.Clone(l)
			for range 3 {
				for i := range changed {
					changed[i].Value = next(2)
					if changed[i].Type == api.IntType && next(3) > 0 {
						changed[i].Value = next(2*maxInt+1) - maxInt
					}
				}
				if otherKind, otherErr := expr.Type(e, changed); otherKind != kind || otherErr != err {
					t.Errorf("P9.2: the type of %s depends on values: %d, %d instead of %d, %d", expectedText(e), otherKind, otherErr, kind, err)
				}
			}
		}
	}
}

func TestP9_3Folding(t *testing.T) {
	lists := environments()
	for i, e := range valid() {
		folded := fold(t, e)
		if again := fold(t, folded); !expr.Equal(again, folded) {
			t.Errorf("P9.3: folding %s again yields %s", text(t, folded), text(t, again))
		}
		for _, l := range [][]api.Binding{lists[i%8], lists[(i+1)%8], lists[(i+3)%8]} {
			kind, err := expr.Type(e, l)
			if foldedKind, foldedErr := expr.Type(folded, l); foldedKind != kind || foldedErr != err {
				t.Errorf("P9.3: folding %s changes the type %d, %d to %d, %d", text(t, e), kind, err, foldedKind, foldedErr)
			}
			x, err := expr.Eval(e, l)
			if foldedX, foldedErr := expr.Eval(folded, l); foldedX != x || foldedErr != err {
				t.Errorf("P9.3: folding %s changes the value %d, %d to %d, %d", text(t, e), x, err, foldedX, foldedErr)
			}
		}
	}
}

// TestP9_3Smaller makes sure that folding leaves nothing that could be folded, and makes nothing larger.
func TestP9_3Smaller(t *testing.T) {
	smaller := 0
	for _, e := range valid() {
		folded := fold(t, e)
		if expr.Size(folded) > expr.Size(e) {
			t.Errorf("P9.3: folding %s yields %s", text(t, e), text(t, folded))
		}
		if expr.Size(folded) < expr.Size(e) {
			smaller++
		}
		for _, part := range preorder(folded, maxParts) {
			isNumber := part.e.Kind == api.NumberExpr || part.e.Op == api.NegOp && part.e.Args[0].Kind == api.NumberExpr && part.e.Args[0].Value > 0
			kind, _ := expr.Type(part.e, nil)
			if _, err := expr.Eval(part.e, nil); err == api.OK && kind == api.IntType && !isNumber {
				t.Errorf("P9.3: folding %s leaves %s", text(t, e), text(t, part.e))
			}
		}
	}
	if smaller < 5000 {
		t.Errorf("%d expressions became smaller", smaller)
	}
}

// bound returns the bindings l with another one, which replaces the one with its name.
func bound(l []api.Binding, b api.Binding) []api.Binding {
	l = slices.DeleteFunc(slices.Clone(l), func(old api.Binding) bool { return old.Name == b.Name })
	i := 0
	for i < len(l) && l[i].Name < b.Name {
		i++
	}
	return slices.Insert(l, i, b)
}

func TestP9_4Substitution(t *testing.T) {
	next := randoms(6)
	l := mixed()
	others := slices.Concat(small()[:100], scattered())
	counts := map[api.Errno]int{}
	for _, e := range l {
		for _, s := range append(expr.Names(e), "x", "nowhere") {
			for _, bindings := range environments()[:7] {
				by := others[next(len(others))]
				result, err := expr.Substitute(e, s, by)
				if err != api.OK {
					continue
				}
				kind, _ := expr.Type(by, bindings)
				value, err := expr.Eval(by, bindings)
				if err != api.OK {
					continue
				}
				with := bound(bindings, api.Binding{Name: s, Type: kind, Value: value})
				x, err := expr.Eval(result, bindings)
				want, wantErr := expr.Eval(e, with)
				if x != want || err != wantErr {
					t.Errorf("P9.4: %s with %s for %s has the value %d, %d instead of %d, %d", text(t, e), text(t, by), s, x, err, want, wantErr)
				}
				wantKind, wantErr := expr.Type(e, with)
				if kind, err := expr.Type(result, bindings); kind != wantKind || err != wantErr {
					t.Errorf("P9.4: %s with %s for %s has the type %d, %d instead of %d, %d", text(t, e), text(t, by), s, kind, err, wantKind, wantErr)
				}
				counts[err]++
			}
		}
	}
	for _, err := range []api.Errno{api.OK, api.ErrType, api.ErrNotFound, api.ErrDivide, api.ErrOverflow} {
		if counts[err] < 100 {
			t.Errorf("P9.4: %d substitutions with the error %d", counts[err], err)
		}
	}
}

// TestP9_4Names looks at the names: those of the other expression are there in place of the name that was replaced, and replacing a name by itself, or one that does not occur, changes nothing.
func TestP9_4Names(t *testing.T) {
	for i, e := range mixed() {
		for _, s := range []string{"x", "b", "nowhere", "zz", longName} {
			by := small()[i%200]
			want := expr.Names(e)
			if j := slices.Index(want, s); j >= 0 {
				want = append(slices.Delete(want, j, j+1), expr.Names(by)...)
				slices.Sort(want)
				want = slices.Compact(want)
			}
			result, err := expr.Substitute(e, s, by)
			if err == api.OK && !slices.Equal(expr.Names(result), want) {
				t.Errorf("P9.4: %s with %s for %s has the names %q instead of %q", text(t, e), text(t, by), s, expr.Names(result), want)
			}
			if same, err := expr.Substitute(e, s, name(s)); err != api.OK || !expr.Equal(same, e) {
				t.Errorf("P9.4: %s with %s for itself: %s, %d", text(t, e), s, brief(same), err)
			}
			if same, err := expr.Substitute(e, "absent", by); err != api.OK || !expr.Equal(same, e) {
				t.Errorf("P9.4: %s without the name: %s, %d", text(t, e), brief(same), err)
			}
		}
	}
}

func TestP9_5Texts(t *testing.T) {
	seen := map[string]api.Expr{}
	for _, e := range valid() {
		s := text(t, e)
		if other, found := seen[s]; found && !expr.Equal(other, e) {
			t.Errorf("P9.5: %s and %s have the text %q", brief(e), brief(other), s)
		}
		seen[s] = e
	}
	if len(seen) < 50000 {
		t.Errorf("%d different texts", len(seen))
	}
}

// TestP9_5Names takes names away from the bindings: one of them, or all.
func TestP9_5Names(t *testing.T) {
	taken := 0
	for _, e := range mixed() {
		for _, l := range environments()[:7] {
			if _, err := expr.Type(e, l); err != api.OK {
				continue
			}
			check := func(without []api.Binding, want bool) {
				_, err := expr.Type(e, without)
				x, evalErr := expr.Eval(e, without)
				if (err == api.ErrNotFound) != want || (evalErr == api.ErrNotFound) != want || want && x != 0 {
					t.Errorf("P9.5: %s with the bindings %v: %d, %d", text(t, e), without, err, evalErr)
				}
				taken++
			}
			l := slices.Clone(l)
			used := expr.Names(e)
			for i, b := range l {
				check(slices.Delete(slices.Clone(l), i, i+1), slices.Contains(used, b.Name))
			}
			check(slices.DeleteFunc(l, func(b api.Binding) bool { return slices.Contains(used, b.Name) }), len(used) > 0)
		}
	}
	if taken < 10000 {
		t.Errorf("%d names were taken away", taken)
	}
}

// interesting returns integers around 0, powers of 2, and the limits, and factors of numbers next to the greatest one.
func interesting() []int {
	all := []int{3 * 5 * 7, 1000000007, 257, 4278255361, 366503875925, 366503875926}
	for _, x := range []int{0, 3, 6, 1 << 5, 1 << 19, 1 << 20, 1 << 21, 1 << 31, 1 << 32, maxInt / 3, 1 << 39, maxInt - 1} {
		all = append(all, x-1, x, x+1)
	}
	for _, x := range slices.Clone(all) {
		all = append(all, -x)
	}
	slices.Sort(all)
	return slices.Compact(all)
}

// checkPairs calls a function with all pairs of interesting integers, the bindings of x and y to them, and the values of the texts for them.
func checkPairs(t *testing.T, texts []string, check func(x, y int, values []int, errs []api.Errno)) {
	t.Helper()
	var l []api.Expr
	for _, s := range texts {
		l = append(l, read(t, s))
	}
	for _, x := range interesting() {
		for _, y := range interesting() {
			values, errs := make([]int, len(l)), make([]api.Errno, len(l))
			bindings := []api.Binding{{Name: "x", Type: api.IntType, Value: x}, {Name: "y", Type: api.IntType, Value: y}}
			for i, e := range l {
				values[i], errs[i] = expr.Eval(e, bindings)
			}
			check(x, y, values, errs)
		}
	}
}

func TestP9_6Quotients(t *testing.T) {
	checkPairs(t, []string{"x / y", "x % y", "x / y * y + x % y", "x / y * y + x % y == x"}, func(x, y int, values []int, errs []api.Errno) {
		if y == 0 {
			if slices.Max(values) != 0 || slices.Min(values) != 0 || slices.Max(errs) != api.ErrDivide || slices.Min(errs) != api.ErrDivide {
				t.Errorf("P9.6: %d divided by 0: %d, %d", x, values, errs)
			}
			return
		}
		quotient, remainder := values[0], values[1]
		isSmall := max(remainder, -remainder) < max(y, -y)
		hasSign := remainder == 0 || remainder < 0 == (x < 0)
		if quotient*y+remainder != x || !isSmall || !hasSign || values[2] != x || values[3] != 1 || slices.Max(errs) != api.OK {
			t.Errorf("P9.6: %d divided by %d: %d, %d", x, y, values, errs)
		}
	})
}

func TestP9_6Sums(t *testing.T) {
	overflows := 0
	checkPairs(t, []string{"x + y", "y + x", "x - y", "y - x", "x * y", "y * x", "-x", "-(-x)", "-x - y", "-(x + y)", "x - -y", "-x * y", "-(x * y)"}, func(x, y int, values []int, errs []api.Errno) {
		same := func(i, j int) bool { return values[i] == values[j] && errs[i] == errs[j] }
		if !same(0, 1) || !same(0, 10) || !same(4, 5) || !same(8, 9) || !same(11, 12) || values[2] != -values[3] || errs[2] != errs[3] {
			t.Errorf("P9.6: sums and products of %d and %d: %d, %d", x, y, values, errs)
		}
		if values[6] != -x || values[7] != x || errs[0] == api.OK && values[0] != x+y || errs[2] == api.OK && values[2] != x-y || errs[4] == api.OK && values[4] != x*y {
			t.Errorf("P9.6: values for %d and %d: %d, %d", x, y, values, errs)
		}
		isGreat := x+y > maxInt || x+y < -maxInt
		if (errs[0] == api.ErrOverflow) != isGreat {
			t.Errorf("P9.6: the sum of %d and %d: %d", x, y, errs[0])
		}
		// Floats are exact around the limits, and far from them otherwise.
		isGreat = math.Abs(float64(x)*float64(y)) > maxInt
		if (errs[4] == api.ErrOverflow) != isGreat {
			t.Errorf("P9.6: the product of %d and %d: %d", x, y, errs[4])
		}
		if isGreat {
			overflows++
		}
	})
	if overflows < 1000 {
		t.Errorf("%d products overflow", overflows)
	}
}

func TestP9_6Comparisons(t *testing.T) {
	checkPairs(t, []string{"x < y", "x == y", "x > y", "x <= y", "x != y", "x >= y", "y > x", "y == x", "y < x", "y >= x", "y != x", "y <= x"}, func(x, y int, values []int, errs []api.Errno) {
		if slices.Max(errs) != api.OK || values[0]+values[1]+values[2] != 1 || values[1] != 1 && x == y || values[0] != 1 && x < y {
			t.Errorf("P9.6: comparing %d and %d: %d, %d", x, y, values, errs)
		}
		for i := range 3 {
			if values[3+i] != 1-values[2-i] {
				t.Errorf("P9.6: comparing %d and %d: %d", x, y, values)
			}
		}
		if !slices.Equal(values[:6], values[6:]) {
			t.Errorf("P9.6: comparing %d and %d in both orders: %d", x, y, values)
		}
	})
	for i := range 4 {
		x, y := i/2, i%2
		l := []api.Binding{{Name: "b", Type: 2, Value: x}, {Name: "c", Type: 2, Value: y}}
		equal, unequal := eval(t, read(t, "b == c"), l), eval(t, read(t, "b != c"), l)
		if equal+unequal != 1 || (equal == 1) != (x == y) {
			t.Errorf("P9.6: comparing the booleans %d and %d: %d, %d", x, y, equal, unequal)
		}
	}
}

// TestP9_6DeMorgan has the laws for names, and for all other booleans.
func TestP9_6DeMorgan(t *testing.T) {
	next := randoms(7)
	var l []api.Expr
	for _, e := range slices.Concat(small(), scattered()) {
		kind, err := expr.Type(e, environments()[1])
		if err == api.OK && kind == api.BoolType {
			l = append(l, e)
		}
	}
	compared := 0
	for i, a := range l {
		b := l[next(len(l))]
		if i < 16 {
			a, b = name([]string{"b", "c"}[i%2]), name([]string{"b", "c"}[i/2%2])
		}
		for _, laws := range [][2]api.Expr{
			{un(api.NotOp, bin(api.AndOp, a, b)), bin(api.OrOp, un(api.NotOp, a), un(api.NotOp, b))},
			{un(api.NotOp, bin(api.OrOp, a, b)), bin(api.AndOp, un(api.NotOp, a), un(api.NotOp, b))},
			{bin(api.AndOp, a, b), un(api.NotOp, bin(api.OrOp, un(api.NotOp, a), un(api.NotOp, b)))},
			{un(api.NotOp, un(api.NotOp, a)), a},
			{bin(api.UnequalOp, a, b), un(api.NotOp, bin(api.EqualOp, a, b))},
		} {
			if expr.Check(laws[0]) != api.OK || expr.Check(laws[1]) != api.OK {
				continue
			}
			for _, bindings := range environments()[1:5] {
				x, err := expr.Eval(laws[0], bindings)
				y, otherErr := expr.Eval(laws[1], bindings)
				if x != y || err != otherErr {
					t.Errorf("P9.6: %s has the value %d, %d, and %s has %d, %d", text(t, laws[0]), x, err, text(t, laws[1]), y, otherErr)
				}
				compared++
			}
		}
	}
	if compared < 10000 {
		t.Errorf("%d comparisons", compared)
	}
}

func TestP9_6Connectives(t *testing.T) {
	for s, want := range map[string][4]int{
		"b && c":             {0, 0, 0, 1},
		"b || c":             {0, 1, 1, 1},
		"!b":                 {1, 1, 0, 0},
		"!c":                 {1, 0, 1, 0},
		"b == c":             {1, 0, 0, 1},
		"b != c":             {0, 1, 1, 0},
		"b && !c":            {0, 0, 1, 0},
		"b || c && !b":       {0, 1, 1, 1},
		"(b || c) && !b":     {0, 1, 0, 0},
		"!b || b":            {1, 1, 1, 1},
		"!(b && c) == c":     {0, 1, 0, 0},
		"(b == c) == b":      {0, 1, 0, 1},
		"b && 1 < 2":         {0, 0, 1, 1},
		"c || 2 <= 2":        {1, 1, 1, 1},
		"2 > 2 || b != !!b":  {0, 0, 0, 0},
		"(1 >= 2) == b && c": {0, 1, 0, 0},
	} {
		for i := range 4 {
			l := []api.Binding{{Name: "b", Type: 2, Value: i / 2}, {Name: "c", Type: 2, Value: i % 2}}
			if x := eval(t, read(t, s), l); x != want[i] {
				t.Errorf("P9.6: %s with %d and %d: %d", s, i/2, i%2, x)
			}
		}
	}
}
