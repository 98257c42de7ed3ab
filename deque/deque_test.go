package deque_test

import (
	"slices"
	"testing"

	"nursery/api"
	"nursery/deque"
)

// push returns a deque to which a task was pushed that can be pushed.
func push(t *testing.T, l []int, x int) []int {
	t.Helper()
	pushed, e := deque.Push(l, x)
	if e != api.OK {
		t.Fatalf("Push(%d, %d): %d, %d", l, x, pushed, e)
	}
	return pushed
}

// take returns a deque without the task that Pop or Steal takes, and this task.
func take(t *testing.T, by func([]int) ([]int, int, api.Errno), l []int) ([]int, int) {
	t.Helper()
	others, x, e := by(l)
	if e != api.OK {
		t.Fatalf("taking from %d: %d, %d, %d", l, others, x, e)
	}
	return others, x
}

// perform returns what playing operations returns that can be performed.
func perform(t *testing.T, l []int, ops []api.Edge) (left, results []int) {
	t.Helper()
	left, results, e := deque.Play(l, ops)
	if e != api.OK {
		t.Fatalf("Play(%d, %d): %d, %d, %d", l, ops, left, results, e)
	}
	return left, results
}

// brief returns the beginning of a list, for a message.
func brief[T any](l []T) []T {
	return l[:min(len(l), 70)]
}

// TestSamples makes sure that the samples are as many and as different as the other tests need them.
func TestSamples(t *testing.T) {
	sizes := map[int]int{}
	for _, l := range deques() {
		sizes[len(l)]++
		if e := expectedCheck(l); e != api.OK {
			t.Errorf("%d is no deque: %d", l, e)
		}
	}
	for size := range tasks + 1 {
		if sizes[size] < 2 || size > 0 && sizes[size] < 8 {
			t.Errorf("%d deques of %d tasks", sizes[size], size)
		}
	}
	counts := map[api.Errno]int{}
	for _, l := range noDeques() {
		counts[expectedCheck(l)]++
	}
	if counts[api.OK] != 0 || counts[api.ErrRange] < 100 || counts[api.ErrExists] < 100 || counts[api.ErrLimit] < 12 {
		t.Errorf("no deques: %d", counts)
	}
	clear(counts)
	for _, p := range broken() {
		_, _, e := expectedPlay(p.l, p.ops)
		counts[e]++
	}
	if counts[api.OK] != 0 || counts[api.ErrRange] < 500 || counts[api.ErrExists] < 500 || counts[api.ErrKind] < 500 || len(counts) != 3 {
		t.Errorf("broken runs: %d", counts)
	}
	empty, full := 0, 0
	for _, p := range runs() {
		left, results, e := expectedPlay(p.l, p.ops)
		if e != api.OK {
			t.Errorf("%d, %d: %d", p.l, brief(p.ops), e)
		}
		if slices.Contains(results, -1) {
			empty++
		}
		if len(left) == tasks {
			full++
		}
	}
	if empty < 500 || full < 100 {
		t.Errorf("%d runs with an empty deque, %d with a full one at the end", empty, full)
	}
}

func TestP8_1Check(t *testing.T) {
	for _, l := range slices.Concat(deques(), noDeques()) {
		if e, want := deque.Check(l), expectedCheck(l); e != want {
			t.Errorf("P8.1: Check(%d): %d instead of %d", brief(l), e, want)
		}
	}
}

// TestP8_1CheckExamples has lists to which several errors apply: the first one of the first element counts, behind that of the whole list.
func TestP8_1CheckExamples(t *testing.T) {
	all := []int{0, 1, 2, 3, 4, 5, 6, 7, 8, 9, 10, 11, 12, 13, 14, 15}
	for _, c := range []struct {
		l    []int
		want api.Errno
	}{
		{nil, api.OK},
		{[]int{}, api.OK},
		{[]int{0}, api.OK},
		{[]int{15}, api.OK},
		{all, api.OK},
		{[]int{16}, api.ErrRange},
		{[]int{-1}, api.ErrRange},
		{[]int{5, 5}, api.ErrExists},
		{[]int{0, 15, 0}, api.ErrExists},
		{[]int{5, 5, 16}, api.ErrExists},
		{[]int{5, 16, 5}, api.ErrRange},
		{[]int{16, 16}, api.ErrRange},
		{[]int{-1, 5, 5}, api.ErrRange},
		{slices.Concat(all[:15], []int{14}), api.ErrExists},
		{slices.Concat(all[:15], []int{16}), api.ErrRange},
		{slices.Concat(all, []int{16}), api.ErrLimit},
		{slices.Concat(all, []int{0}), api.ErrLimit},
		{slices.Concat([]int{-1, 3, 3}, all), api.ErrLimit},
	} {
		if e := deque.Check(c.l); e != c.want {
			t.Errorf("P8.1: Check(%d): %d instead of %d", c.l, e, c.want)
		}
	}
}

func TestP8_1Push(t *testing.T) {
	for _, l := range slices.Concat(deques(), noDeques()) {
		for x := -20; x < 40; x++ {
			checkPush(t, l, x)
		}
		for _, x := range noTasks {
			checkPush(t, l, x)
		}
	}
}

func checkPush(t *testing.T, l []int, x int) {
	t.Helper()
	var want []int
	wantError := expectedCheck(l)
	if wantError == api.OK {
		wantError = expectedNew(l, x)
	}
	if wantError == api.OK {
		want = slices.Concat(l, []int{x})
	}
	if got, e := deque.Push(l, x); !slices.Equal(got, want) || e != wantError {
		t.Errorf("P8.1: Push(%d, %d): %d, %d instead of %d, %d", brief(l), x, brief(got), e, want, wantError)
	}
}

// TestP8_1PushFull pushes to a deque with all tasks: each of them is there, so that no deque becomes too long.
func TestP8_1PushFull(t *testing.T) {
	next := randoms(5)
	for range 20 {
		l := allTasks(next)
		for x := range tasks {
			if got, e := deque.Push(l, x); len(got) != 0 || e != api.ErrExists {
				t.Errorf("P8.1: Push(%d, %d): %d, %d", l, x, got, e)
			}
			if got, e := deque.Push(l[:15], x); (e == api.OK) != (x == l[15]) || (len(got) == 16) != (x == l[15]) {
				t.Errorf("P8.1: Push(%d, %d): %d, %d", l[:15], x, got, e)
			}
		}
	}
}

func TestP8_1Take(t *testing.T) {
	for _, l := range slices.Concat(deques(), noDeques()) {
		var popped, stolen []int
		var last, first int
		want := expectedCheck(l)
		switch {
		case want == api.OK && len(l) == 0:
			want = api.ErrEmpty
		case want == api.OK:
			popped, last = l[:len(l)-1], l[len(l)-1]
			stolen, first = l[1:], l[0]
		}
		if others, x, e := deque.Pop(l); !slices.Equal(others, popped) || x != last || e != want {
			t.Errorf("P8.1: Pop(%d): %d, %d, %d", brief(l), brief(others), x, e)
		}
		if others, x, e := deque.Steal(l); !slices.Equal(others, stolen) || x != first || e != want {
			t.Errorf("P8.1: Steal(%d): %d, %d, %d", brief(l), brief(others), x, e)
		}
	}
}

func TestP8_1Half(t *testing.T) {
	for _, l := range deques() {
		n := len(l) / 2
		if len(l)%2 == 1 {
			n++
		}
		if others, half := deque.Half(l); !slices.Equal(half, l[:n]) || !slices.Equal(others, l[n:]) {
			t.Errorf("P8.1: Half(%d): %d, %d", l, others, half)
		}
	}
	for _, l := range noDeques() {
		if others, half := deque.Half(l); len(others)+len(half) != 0 {
			t.Errorf("P8.1: Half(%d): %d, %d", brief(l), brief(others), brief(half))
		}
	}
}

func checkPlay(t *testing.T, l []int, ops []api.Edge) {
	t.Helper()
	want, wantResults, wantError := expectedPlay(l, ops)
	left, results, e := deque.Play(l, ops)
	if !slices.Equal(left, want) || !slices.Equal(results, wantResults) || e != wantError {
		t.Errorf("P8.1: Play(%d, %d): %d, %d, %d instead of %d, %d, %d", brief(l), brief(ops), brief(left), brief(results), e, want, brief(wantResults), wantError)
	}
}

func TestP8_1Play(t *testing.T) {
	plays := shortPlays()
	for _, l := range deques() {
		for _, ops := range plays {
			checkPlay(t, l, ops)
		}
	}
	for _, p := range append(runs(), broken()...) {
		checkPlay(t, p.l, p.ops)
	}
}

// TestP8_1PlayEach performs each operation, also ones that cannot be performed, on deques that are empty, full, and others.
func TestP8_1PlayEach(t *testing.T) {
	ops := wrongOperations()
	for _, kind := range []int{1, 2, 3} {
		for x := -20; x < 40; x++ {
			ops = append(ops, api.Edge{From: kind, To: x})
		}
		for _, x := range noTasks {
			ops = append(ops, api.Edge{From: kind, To: x})
		}
	}
	for _, l := range deques() {
		for _, op := range ops {
			checkPlay(t, l, []api.Edge{op})
		}
	}
}

// TestP8_1PlayErrors has errors that apply together: that of the deque is first, then the number of operations, then the first operation with an error.
func TestP8_1PlayErrors(t *testing.T) {
	wrong := wrongOperations()
	for _, l := range noDeques() {
		for _, ops := range [][]api.Edge{nil, {pop}, {steal, pushOf(3)}, {pushOf(-1)}, {{}}, slices.Repeat([]api.Edge{pop}, longest+1)} {
			left, results, e := deque.Play(l, ops)
			if len(left)+len(results) != 0 || e != expectedCheck(l) {
				t.Errorf("P8.1: Play(%d, %d): %d, %d, %d", brief(l), brief(ops), brief(left), brief(results), e)
			}
		}
	}
	for _, size := range []int{longest + 1, longest + 2, 20000} {
		for _, l := range largeDeques() {
			for _, op := range []api.Edge{pop, steal, pushOf(0), pushOf(-1), {}, wrong[len(l)]} {
				left, results, e := deque.Play(l, slices.Repeat([]api.Edge{op}, size))
				if len(left)+len(results) != 0 || e != api.ErrLimit {
					t.Errorf("P8.1: Play(%d, %d times %d): %d, %d, %d", l, size, op, left, brief(results), e)
				}
			}
		}
	}
	for _, c := range []struct {
		ops  []api.Edge
		want api.Errno
	}{
		{[]api.Edge{{From: 0, To: 16}}, api.ErrKind},
		{[]api.Edge{{From: 4, To: 3}}, api.ErrKind},
		{[]api.Edge{pushOf(16), {From: 0}}, api.ErrRange},
		{[]api.Edge{{From: 0}, pushOf(16)}, api.ErrKind},
		{[]api.Edge{pushOf(2), pushOf(16)}, api.ErrExists},
		{[]api.Edge{pop, pushOf(2), pushOf(-1)}, api.ErrRange},
		{[]api.Edge{pop, pushOf(2), pushOf(2)}, api.ErrExists},
		{[]api.Edge{steal, pop, pop, {From: -1}}, api.ErrKind},
		{[]api.Edge{steal, pop, pop, pushOf(1), pushOf(2)}, api.OK},
	} {
		if left, results, e := deque.Play([]int{1, 2}, c.ops); e != c.want || e != api.OK && len(left)+len(results) != 0 {
			t.Errorf("P8.1: Play([1 2], %d): %d, %d, %d instead of %d", c.ops, left, results, e, c.want)
		}
	}
}

// TestP8_1PlayMost plays as many operations as can be played together.
func TestP8_1PlayMost(t *testing.T) {
	for _, op := range []api.Edge{pop, steal} {
		for _, size := range []int{longest - 1, longest} {
			left, results := perform(t, []int{9, 4, 15}, slices.Repeat([]api.Edge{op}, size))
			if len(left) != 0 || len(results) != size || slices.Contains(results[:3], -1) || slices.Max(results[3:]) != -1 || slices.Min(results[3:]) != -1 {
				t.Errorf("P8.1: Play([9 4 15], %d times %d): %d, %d", size, op, left, brief(results))
			}
		}
	}
}

func TestP8_1Examples(t *testing.T) {
	left, results := perform(t, nil, []api.Edge{pushOf(1), pushOf(2), pushOf(3), steal, pop})
	if !slices.Equal(left, []int{2}) || !slices.Equal(results, []int{1, 3}) {
		t.Errorf("P8.1: Play: %d, %d", left, results)
	}
	if others, half := deque.Half([]int{4, 5, 6}); !slices.Equal(others, []int{6}) || !slices.Equal(half, []int{4, 5}) {
		t.Errorf("P8.1: Half: %d, %d", others, half)
	}
	l := push(t, []int{4, 5}, 6)
	if !slices.Equal(l, []int{4, 5, 6}) {
		t.Errorf("P8.1: Push: %d", l)
	}
	if others, x := take(t, deque.Pop, l); !slices.Equal(others, []int{4, 5}) || x != 6 {
		t.Errorf("P8.1: Pop: %d, %d", others, x)
	}
	if others, x := take(t, deque.Steal, l); !slices.Equal(others, []int{5, 6}) || x != 4 {
		t.Errorf("P8.1: Steal: %d, %d", others, x)
	}
	if others, x, e := deque.Pop(nil); len(others) != 0 || x != 0 || e != api.ErrEmpty {
		t.Errorf("P8.1: Pop: %d, %d, %d", others, x, e)
	}
}

// spoil overwrites the elements of a list, and what may lie behind it in memory.
func spoil[T any](l []T, with T) {
	full := l[:cap(l)]
	for i := range full {
		full[i] = with
	}
}

// results returns all lists that the functions return for a deque of four tasks without 9 and 10, and for some operations.
func results(t *testing.T, l []int, ops []api.Edge) [][]int {
	t.Helper()
	popped, _ := take(t, deque.Pop, l)
	stolen, _ := take(t, deque.Steal, l)
	others, half := deque.Half(l)
	all := [][]int{push(t, l, 9), push(t, l, 9), push(t, l, 10), popped, stolen, others, half}
	for n := range len(ops) + 1 {
		left, results := perform(t, l, ops[:n])
		all = append(all, left, results)
	}
	return all
}

// TestP8_1Memory spoils a result, or an argument, which changes neither the arguments nor another result.
func TestP8_1Memory(t *testing.T) {
	original := []int{3, 1, 4, 15}
	originalOps := []api.Edge{pop, pushOf(9), pushOf(10), steal, pop, pushOf(3), pop, pop, pop, pop, steal, pushOf(2)}
	l := append(make([]int, 0, 12), original...)
	ops := slices.Clone(originalOps)
	want := results(t, original, originalOps)
	for i := range want {
		got := results(t, l, ops)
		spoil(got[i], -9)
		for j := range got {
			if j != i && !slices.Equal(got[j], want[j]) {
				t.Errorf("P8.1: the result %d changes with the result %d: %d", j, i, got[j])
			}
		}
		if !slices.Equal(l[:cap(l)], append(slices.Clone(original), make([]int, 8)...)) || !slices.Equal(ops, originalOps) {
			t.Fatalf("P8.1: an argument changes with the result %d: %d, %d", i, l[:cap(l)], ops)
		}
	}
	got := results(t, l, ops)
	spoil(l, -9)
	spoil(ops, api.Edge{From: -9, To: -9})
	for i := range got {
		if !slices.Equal(got[i], want[i]) {
			t.Errorf("P8.1: the result %d changes with an argument: %d", i, got[i])
		}
	}
}

func TestP8_2Pushed(t *testing.T) {
	for _, l := range deques() {
		for x := range tasks {
			if slices.Contains(l, x) {
				continue
			}
			if others, popped := take(t, deque.Pop, push(t, l, x)); popped != x || !slices.Equal(others, l) {
				t.Errorf("P8.2: %d was pushed to %d, and popped is %d, which leaves %d", x, l, popped, others)
			}
		}
	}
}

// TestP8_2All empties deques from the bottom, and from the top, after all tasks that are missing were pushed.
func TestP8_2All(t *testing.T) {
	for _, l := range deques() {
		arrived := slices.Clone(l)
		full := l
		for x := range tasks {
			if !slices.Contains(l, x) {
				full = push(t, full, x)
				arrived = append(arrived, x)
			}
		}
		bottom, top := full, full
		for i := range tasks {
			var popped, stolen int
			bottom, popped = take(t, deque.Pop, bottom)
			top, stolen = take(t, deque.Steal, top)
			if popped != arrived[tasks-1-i] || stolen != arrived[i] {
				t.Errorf("P8.2: from %d, popped at %d is %d, stolen is %d", full, i, popped, stolen)
			}
		}
		if len(bottom)+len(top) != 0 {
			t.Errorf("P8.2: %d leaves %d, %d", full, bottom, top)
		}
	}
}

// TestP8_2Runs notes when each task was pushed that is in the deque: a pop returns the latest one, and stealing the earliest one.
func TestP8_2Runs(t *testing.T) {
	for _, p := range append(runs(), shortRuns()...) {
		_, got := perform(t, p.l, p.ops)
		when := map[int]int{}
		for i, x := range p.l {
			when[x] = i
		}
		for i, op := range p.ops {
			if op.From == 1 {
				when[op.To] = tasks + i
				continue
			}
			if len(got) == 0 {
				t.Fatalf("P8.2: Play(%d, %d): there are too few results", p.l, brief(p.ops))
			}
			if want := lastOrFirst(when, op.From == 2); got[0] != want {
				t.Fatalf("P8.2: Play(%d, %d): operation %d returns %d instead of %d", p.l, brief(p.ops), i, got[0], want)
			}
			delete(when, got[0])
			got = got[1:]
		}
	}
}

// lastOrFirst returns the task that came last, or first, or -1 if there is none.
func lastOrFirst(when map[int]int, isLast bool) int {
	found := -1
	for x := range tasks {
		time, is := when[x]
		if is && (found < 0 || (time > when[found]) == isLast) {
			found = x
		}
	}
	return found
}

func TestP8_3BothEnds(t *testing.T) {
	for _, l := range deques() {
		if len(l) < 2 {
			continue
		}
		a, popped := take(t, deque.Pop, l)
		a, stolen := take(t, deque.Steal, a)
		b, stolenFirst := take(t, deque.Steal, l)
		b, poppedThen := take(t, deque.Pop, b)
		if !slices.Equal(a, b) || popped != poppedThen || stolen != stolenFirst || len(a) != len(l)-2 {
			t.Errorf("P8.3: %d: popped and stolen are %d, %d, which leaves %d, and in the other order %d, %d, %d", l, popped, stolen, a, poppedThen, stolenFirst, b)
		}
	}
}

// TestP8_3Runs exchanges the last two operations behind runs that leave at least two tasks.
func TestP8_3Runs(t *testing.T) {
	for _, p := range append(runs(), shortRuns()...) {
		if left, _ := perform(t, p.l, p.ops); len(left) < 2 || len(p.ops) > longest-2 {
			continue
		}
		n := len(p.ops)
		a, first := perform(t, p.l, append(p.ops[:n:n], pop, steal))
		b, second := perform(t, p.l, append(p.ops[:n:n], steal, pop))
		last := len(first) - 1
		if last < 1 || len(second) != len(first) || !slices.Equal(a, b) || !slices.Equal(first[:last-1], second[:last-1]) || first[last] != second[last-1] || first[last-1] != second[last] {
			t.Errorf("P8.3: Play(%d, %d), popping, stealing: %d, %d, and in the other order: %d, %d", p.l, brief(p.ops), a, brief(first), b, brief(second))
		}
	}
}

func TestP8_4Halves(t *testing.T) {
	for _, l := range deques() {
		others, half := deque.Half(l)
		var stolen []int
		left := l
		for range half {
			var x int
			left, x = take(t, deque.Steal, left)
			stolen = append(stolen, x)
		}
		if !slices.Equal(stolen, half) || !slices.Equal(left, others) || len(half)-len(others) != len(l)%2 {
			t.Errorf("P8.4: Half(%d): %d, %d, and stealing that often: %d, %d", l, others, half, left, stolen)
		}
		played, results := perform(t, l, slices.Repeat([]api.Edge{steal}, (len(l)+1)/2))
		if !slices.Equal(results, half) || !slices.Equal(played, others) {
			t.Errorf("P8.4: Half(%d): %d, %d, and playing: %d, %d", l, others, half, played, results)
		}
	}
}

// TestP8_4Again takes halves until nothing is left: the halves are the deque.
func TestP8_4Again(t *testing.T) {
	for _, l := range deques() {
		var taken []int
		left := l
		for range 5 {
			var half []int
			left, half = deque.Half(left)
			taken = append(taken, half...)
			if e := deque.Check(left); e != api.OK {
				t.Errorf("P8.4: the halves of %d leave %d: %d", l, left, e)
			}
		}
		if len(left) != 0 || !slices.Equal(taken, l) {
			t.Errorf("P8.4: the halves of %d: %d, and %d is left", l, taken, left)
		}
	}
}

func TestP8_5Conservation(t *testing.T) {
	for _, p := range append(runs(), shortRuns()...) {
		left, results := perform(t, p.l, p.ops)
		came, went := map[int]int{}, map[int]int{}
		for _, x := range p.l {
			came[x]++
		}
		taking := 0
		for _, op := range p.ops {
			if op.From == 1 {
				came[op.To]++
			} else {
				taking++
			}
		}
		for _, x := range append(slices.Clone(left), results...) {
			went[x]++
		}
		for x := range tasks {
			if came[x] != went[x] {
				t.Errorf("P8.5: Play(%d, %d): %d, %d: the task %d came %d times", p.l, brief(p.ops), left, brief(results), x, came[x])
			}
		}
		if len(results) != taking || deque.Check(left) != api.OK || expectedCheck(left) != api.OK {
			t.Errorf("P8.5: Play(%d, %d): %d, %d", p.l, brief(p.ops), left, brief(results))
		}
	}
}

// TestP8_5Single pushes, pops, steals and halves: nothing is lost, and nothing is there twice.
func TestP8_5Single(t *testing.T) {
	for _, l := range deques() {
		pushed := push(t, without(l, 3), 3)
		popped, last := take(t, deque.Pop, pushed)
		stolen, first := take(t, deque.Steal, pushed)
		others, half := deque.Half(l)
		all := sorted(append(without(l, 3), 3)...)
		if !slices.Equal(sorted(append(slices.Clone(popped), last)...), all) || !slices.Equal(sorted(append(slices.Clone(stolen), first)...), all) {
			t.Errorf("P8.5: %d: popping %d leaves %d, stealing %d leaves %d", l, last, popped, first, stolen)
		}
		if !slices.Equal(sorted(slices.Concat(others, half)...), sorted(l...)) {
			t.Errorf("P8.5: Half(%d): %d, %d", l, others, half)
		}
	}
}

func without(l []int, x int) []int {
	return slices.DeleteFunc(slices.Clone(l), func(y int) bool { return x == y })
}

func sorted(l ...int) []int {
	return slices.Sorted(slices.Values(l))
}

// checkParts plays operations in two parts, and together.
func checkParts(t *testing.T, p play, n int) {
	t.Helper()
	whole, results, e := deque.Play(p.l, p.ops)
	left, first, firstError := deque.Play(p.l, p.ops[:n])
	if firstError != api.OK {
		if e != firstError {
			t.Errorf("P8.6: Play(%d, %d): %d, and of the first %d: %d", p.l, brief(p.ops), e, n, firstError)
		}
		return
	}
	end, second, secondError := deque.Play(left, p.ops[n:])
	if e != secondError {
		t.Errorf("P8.6: Play(%d, %d): %d, and behind %d: %d", p.l, brief(p.ops), e, n, secondError)
	}
	if e == api.OK && (!slices.Equal(end, whole) || !slices.Equal(slices.Concat(first, second), results)) {
		t.Errorf("P8.6: Play(%d, %d): %d, %d, and in two parts of which the first one has %d: %d, %d, %d", p.l, brief(p.ops), whole, brief(results), n, end, brief(first), brief(second))
	}
}

func TestP8_6Parts(t *testing.T) {
	for _, p := range slices.Concat(runs(), broken()) {
		for n := 0; n <= len(p.ops); n += 1 + len(p.ops)/8 {
			checkParts(t, p, n)
		}
	}
}

// TestP8_6Short cuts all short lists of operations, of which some cannot be performed, everywhere.
func TestP8_6Short(t *testing.T) {
	plays := shortPlays()
	for _, l := range deques() {
		if len(l) > 3 && len(l) < tasks-1 {
			continue
		}
		for _, ops := range plays {
			for n := range len(ops) + 1 {
				checkParts(t, play{l, ops}, n)
			}
		}
	}
}

// TestP8_6Single plays operations one by one, with the functions of their kinds.
func TestP8_6Single(t *testing.T) {
	for _, p := range append(runs(), shortRuns()...) {
		l := p.l
		var got []int
		for _, op := range p.ops {
			x := -1
			switch {
			case op.From == 1:
				l = push(t, l, op.To)
				continue
			case op.From == 2 && len(l) > 0:
				l, x = take(t, deque.Pop, l)
			case op.From == 3 && len(l) > 0:
				l, x = take(t, deque.Steal, l)
			}
			got = append(got, x)
		}
		if left, results := perform(t, p.l, p.ops); !slices.Equal(left, l) || !slices.Equal(results, got) {
			t.Errorf("P8.6: Play(%d, %d): %d, %d, and one by one: %d, %d", p.l, brief(p.ops), left, brief(results), l, brief(got))
		}
	}
}
