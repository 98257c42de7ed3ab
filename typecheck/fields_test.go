package typecheck_test

import (
	"reflect"
	"slices"
	"strings"
	"testing"

	"nursery/typecheck"
)

// copyOf returns a value in new memory, with nil in place of empty lists.
func copyOf(v reflect.Value) reflect.Value {
	result := reflect.New(v.Type()).Elem()
	switch v.Kind() {
	case reflect.Struct:
		for i := range v.NumField() {
			result.Field(i).Set(copyOf(v.Field(i)))
		}
	case reflect.Slice:
		for i := range v.Len() {
			result = reflect.Append(result, copyOf(v.Index(i)))
		}
	default:
		result.Set(v)
	}
	return result
}

// fieldsIn returns the numbers, the strings and the lists in a value, which can be changed.
func fieldsIn(v reflect.Value) []reflect.Value {
	var l []reflect.Value
	if v.Kind() == reflect.Struct {
		for i := range v.NumField() {
			l = append(l, fieldsIn(v.Field(i))...)
		}
		return l
	}
	l = append(l, v)
	if v.Kind() == reflect.Slice {
		for i := range v.Len() {
			l = append(l, fieldsIn(v.Index(i))...)
		}
	}
	return l
}

// instead returns values that a field can have instead.
func instead(field reflect.Value) []reflect.Value {
	var l []reflect.Value
	switch field.Kind() {
	case reflect.Int:
		for x := -1; x < 104; x++ {
			l = append(l, reflect.ValueOf(x))
		}
	case reflect.String:
		for _, s := range strings.Fields("x n m w d s b c t l u main f g h a e v ok o z q") {
			l = append(l, reflect.ValueOf(s))
		}
		l = append(l, reflect.ValueOf(""))
	case reflect.Slice:
		n := field.Len()
		l = append(l, field.Slice(0, max(0, n-1)), field.Slice(min(1, n), n))
		if n > 0 {
			l = append(l, reflect.Append(copyOf(field), copyOf(field.Index(0))), reflect.Append(copyOf(field), copyOf(field.Index(n-1))))
		}
		if n > 1 {
			swapped := copyOf(field)
			swapped.Index(0).Set(field.Index(n - 1))
			swapped.Index(n - 1).Set(field.Index(0))
			l = append(l, swapped)
		}
	}
	return l
}

// whole is a source without problems that has each kind of statements, and each operation.
const whole = objects + `
task main() {
	let i = 1; i = i + x; let o = i < 2; o = !o; x = i; n = -x;
	if o { emit 1; } else { emit 2; }
	while o && x > 0 { repeat i { sleep 1; } }
	assert o; yield; checkpoint; cancel;
	scope deadline x + 1 budget i as r { mask { emit r; } fail 2; }
	spawn f(i); call g(i, 2); call g(1, x) as i; defer h(n);
	add n, i as v; swap n, i, 2 as ok; begin 99, i; end i;
	select { send c, x { emit 1; } receive c as v, ok { assert ok; } receive c as a1, ok { emit a1; } default { return v; } }
}
task f(a) {
	lock m; trylock m as ok; unlock m; readlock w; readunlock w; writelock w; writeunlock w; wait d; signal d; broadcast d;
	acquire s, a; tryacquire s, 1 as ok; release s, a; arrive b as e; send c, e; receive c as e, ok; close c;
	publish t, e; subscribe t; next t as v; unsubscribe t; take l, v; complete u, v; await u as v;
	if ok { emit e; }
}
func g(a, e) { let v = a < e; if v { return 1; } call g(a, e) as z; return z; }
cleanup h(a) { return a; }
`

// TestP12_1Changes changes each field of a source in many ways.
func TestP12_1Changes(t *testing.T) {
	t.Parallel()
	src := parsed(t, whole)
	checkProblems(t, src, "")
	found := map[string]int{}
	for _, field := range fieldsIn(reflect.ValueOf(&src).Elem()) {
		before := reflect.New(field.Type()).Elem()
		before.Set(field)
		for _, value := range instead(field) {
			field.Set(value)
			want, wantErr := expectedProblems(src)
			if l, err := typecheck.Problems(src); !slices.Equal(l, want) || err != wantErr {
				t.Errorf("P12.1: Problems: %s, %d instead of %s, %d\n%s", listing(l), err, listing(want), wantErr, text(src))
			}
			for _, p := range want {
				found[what(src, p)]++
			}
		}
		field.Set(before)
	}
	if len(found) < 70 {
		t.Errorf("%d kinds of problems: %v", len(found), found)
	}
}

// listsOf returns the lists with room for elements that can be reached from a value.
func listsOf(v reflect.Value) []reflect.Value {
	var l []reflect.Value
	switch v.Kind() {
	case reflect.Struct:
		for i := range v.NumField() {
			l = append(l, listsOf(v.Field(i))...)
		}
	case reflect.Slice:
		if v.Cap() > 0 {
			l = append(l, v)
		}
		for i := range v.Len() {
			l = append(l, listsOf(v.Index(i))...)
		}
	}
	return l
}

// TestP12_1Memory has the room behind all lists of a source filled, and results that are changed.
func TestP12_1Memory(t *testing.T) {
	src := parsed(t, whole)
	for _, field := range fieldsIn(reflect.ValueOf(&src).Elem()) {
		if field.Kind() == reflect.Slice && field.Len() > 0 {
			longer := reflect.Append(copyOf(field), field.Index(0))
			field.Set(longer.Slice(0, field.Len()))
		}
	}
	room := func() []any {
		var l []any
		for _, list := range listsOf(reflect.ValueOf(src)) {
			l = append(l, copyOf(list.Slice(0, list.Cap())).Interface())
		}
		return l
	}
	before := room()
	for range 2 {
		checkAll(t, src)
		problems, _ := typecheck.Problems(src)
		edges, _ := typecheck.Calls(src)
		locals, _ := typecheck.Locals(src, 0)
		writes, _ := typecheck.Writes(src, 0)
		clear(problems[:cap(problems)])
		clear(edges[:cap(edges)])
		clear(locals[:cap(locals)])
		clear(writes[:cap(writes)])
	}
	if !reflect.DeepEqual(before, room()) {
		t.Error("P12.1: the source has changed")
	}
}
