package waitlist_test

import (
	"slices"
	"testing"

	"nursery/api"
	"nursery/waitlist"
)

// push returns a queue to which a waiter was pushed that can be pushed.
func push(t *testing.T, discipline int, q []api.Waiter, w api.Waiter) []api.Waiter {
	t.Helper()
	l, e := waitlist.Push(discipline, q, w)
	if e != api.OK {
		t.Fatalf("Push(%d, %d, %d): %d, %d", discipline, q, w, l, e)
	}
	return l
}

// brief returns the beginning of a list, for a message.
func brief(l []api.Waiter) []api.Waiter {
	return l[:min(len(l), longest)]
}

// TestSamples makes sure that the samples are as many and as different as the other tests need them.
func TestSamples(t *testing.T) {
	for _, w := range validWaiters() {
		if !isValid(w) {
			t.Errorf("%d is not valid", w)
		}
	}
	for _, w := range wrongWaiters() {
		if isValid(w) {
			t.Errorf("%d is valid", w)
		}
	}
	for _, discipline := range disciplines {
		sizes := map[int]int{}
		for _, q := range queues(discipline) {
			sizes[len(q)]++
			if e := expectedCheck(discipline, q); e != api.OK {
				t.Errorf("%d is no queue for %d: %d", q, discipline, e)
			}
		}
		if sizes[3] < 100 || sizes[95] < 20 || sizes[96] < 20 {
			t.Errorf("queues for %d: %d", discipline, sizes)
		}
		counts := map[api.Errno]int{}
		for _, l := range noQueues(discipline) {
			counts[expectedCheck(discipline, l)]++
		}
		if counts[api.OK] != 0 || counts[api.ErrRange] < 500 || counts[api.ErrLimit] < 6 || (counts[api.ErrOrder] > 300) != (discipline == api.ByPriority) {
			t.Errorf("no queues for %d: %d", discipline, counts)
		}
	}
}

func TestP7_1Check(t *testing.T) {
	for _, discipline := range append(noDisciplines, disciplines...) {
		for _, l := range slices.Concat(lists(), noQueues(api.FIFO), noQueues(api.ByPriority)) {
			if e, want := waitlist.Check(discipline, l), expectedCheck(discipline, l); e != want {
				t.Fatalf("P7.1: Check(%d, %d): %d instead of %d", discipline, brief(l), e, want)
			}
		}
	}
	for _, discipline := range disciplines {
		for _, w := range validWaiters() {
			if e := waitlist.Check(discipline, []api.Waiter{w}); e != api.OK {
				t.Fatalf("P7.1: Check of %d: %d", w, e)
			}
		}
		for _, w := range wrongWaiters() {
			if e := waitlist.Check(discipline, []api.Waiter{w}); e != api.ErrRange {
				t.Fatalf("P7.1: Check of %d: %d", w, e)
			}
		}
	}
}

// TestP7_1CheckExamples has lists to which several errors apply: the first one of the first waiter counts.
func TestP7_1CheckExamples(t *testing.T) {
	low, high, bad := row{0, 1, 0, 3, -1}.waiter(), row{15, 99, maxInt, 5, 5}.waiter(), row{0, 1, 0, 9, 6}.waiter()
	full := slices.Repeat([]api.Waiter{low}, longest)
	for _, c := range []struct {
		discipline int
		l          []api.Waiter
		want       api.Errno
	}{
		{api.FIFO, nil, api.OK},
		{api.ByPriority, nil, api.OK},
		{api.FIFO, []api.Waiter{}, api.OK},
		{api.FIFO, []api.Waiter{low, high, low, low}, api.OK},
		{api.ByPriority, []api.Waiter{high, high, low, low}, api.OK},
		{api.FIFO, full, api.OK},
		{api.ByPriority, full, api.OK},
		{0, nil, api.ErrKind},
		{3, nil, api.ErrKind},
		{-1, append(slices.Clone(full), bad), api.ErrKind},
		{3, []api.Waiter{bad, high}, api.ErrKind},
		{api.FIFO, append(slices.Clone(full), low), api.ErrLimit},
		{api.ByPriority, append(slices.Clone(full), low), api.ErrLimit},
		{api.FIFO, append([]api.Waiter{bad}, full...), api.ErrLimit},
		{api.ByPriority, append([]api.Waiter{low, high}, full...), api.ErrLimit},
		{api.FIFO, []api.Waiter{bad}, api.ErrRange},
		{api.FIFO, append(slices.Clone(full[1:]), bad), api.ErrRange},
		{api.ByPriority, []api.Waiter{low, high}, api.ErrOrder},
		{api.ByPriority, append(slices.Clone(full[1:]), high), api.ErrOrder},
		{api.ByPriority, []api.Waiter{high, low, high, low}, api.ErrOrder},
		{api.ByPriority, []api.Waiter{low, bad}, api.ErrRange},
		{api.ByPriority, []api.Waiter{bad, low, high}, api.ErrRange},
		{api.ByPriority, []api.Waiter{low, high, bad}, api.ErrOrder},
		{api.FIFO, []api.Waiter{low, high, bad}, api.ErrRange},
	} {
		if e := waitlist.Check(c.discipline, c.l); e != c.want {
			t.Errorf("P7.1: Check(%d, %d): %d instead of %d", c.discipline, brief(c.l), e, c.want)
		}
	}
}

func TestP7_1Push(t *testing.T) {
	for _, discipline := range disciplines {
		for _, q := range queues(discipline) {
			if len(q) == longest {
				continue
			}
			for _, w := range validWaiters() {
				if got, want := push(t, discipline, q, w), expectedPush(discipline, q, w); !slices.Equal(got, want) {
					t.Fatalf("P7.1: Push(%d, %d, %d): %d instead of %d", discipline, q, w, got, want)
				}
			}
		}
	}
}

// TestP7_1PushErrors has waiters that cannot be pushed to a queue, and lists to which none can be pushed.
func TestP7_1PushErrors(t *testing.T) {
	expect := func(discipline int, l []api.Waiter, w api.Waiter, want api.Errno) {
		if got, e := waitlist.Push(discipline, l, w); len(got) != 0 || e != want {
			t.Fatalf("P7.1: Push(%d, %d, %d): %d, %d instead of %d", discipline, brief(l), w, got, e, want)
		}
	}
	pushed := append(validWaiters()[:3], wrongWaiters()[:3]...)
	for _, discipline := range disciplines {
		for _, q := range queues(discipline) {
			for _, w := range wrongWaiters() {
				expect(discipline, q, w, api.ErrRange)
			}
			for _, w := range validWaiters() {
				if len(q) == longest {
					expect(discipline, q, w, api.ErrLimit)
				}
			}
		}
		for _, l := range noQueues(discipline) {
			for _, w := range append(pushed, l[0]) {
				expect(discipline, l, w, expectedCheck(discipline, l))
			}
		}
	}
	for _, discipline := range noDisciplines {
		for _, l := range lists() {
			for _, w := range pushed {
				expect(discipline, l, w, api.ErrKind)
			}
		}
	}
}

func TestP7_1Find(t *testing.T) {
	for _, l := range lists() {
		for _, task := range tasksOf(l) {
			want, there := 0, false
			for i := len(l) - 1; i >= 0; i-- {
				if l[i].Task == task {
					want, there = i, true
				}
			}
			if i, found := waitlist.Find(l, task); i != want || found != there {
				t.Fatalf("P7.1: Find(%d, %d): %d, %t instead of %d, %t", brief(l), task, i, found, want, there)
			}
		}
	}
}

func TestP7_1Remove(t *testing.T) {
	for _, l := range lists() {
		for _, task := range tasksOf(l) {
			var want []api.Waiter
			for _, w := range l {
				if w.Task != task {
					want = append(want, w)
				}
			}
			if got := waitlist.Remove(l, task); !slices.Equal(got, want) {
				t.Fatalf("P7.1: Remove(%d, %d): %d", brief(l), task, brief(got))
			}
		}
	}
}

func TestP7_1Grant(t *testing.T) {
	for _, l := range lists() {
		for _, units := range unitsFor(l) {
			for _, any := range []bool{false, true} {
				granted, others, left := waitlist.Grant(l, units, any)
				wantGranted, wantOthers, wantLeft := expectedGrant(l, units, any)
				if !slices.Equal(granted, wantGranted) || !slices.Equal(others, wantOthers) || left != wantLeft {
					t.Fatalf("P7.1: Grant(%d, %d, %t): %d, %d, %d", brief(l), units, any, brief(granted), brief(others), left)
				}
			}
		}
	}
}

// TestP7_1GrantExamples has the Values of waiters, and which of them are granted.
func TestP7_1GrantExamples(t *testing.T) {
	for _, c := range []struct {
		values  []int
		units   int
		any     bool
		granted []int
		left    int
	}{
		{nil, 5, false, nil, 5},
		{nil, least, true, nil, least},
		{[]int{2, 4, 1}, 4, false, []int{2}, 2},
		{[]int{2, 4, 1}, 4, true, []int{2, 1}, 1},
		{[]int{2, 4, 1}, 7, false, []int{2, 4, 1}, 0},
		{[]int{2, 2}, 4, false, []int{2, 2}, 0},
		{[]int{5, 4, 0}, 4, false, nil, 4},
		{[]int{5, 4, 0}, 4, true, []int{4, 0}, 0},
		{[]int{0, 0, 1, 0}, 0, false, []int{0, 0}, 0},
		{[]int{0, 0, 1, 0}, 0, true, []int{0, 0, 0}, 0},
		{[]int{-1, 1}, 1, false, nil, 1},
		{[]int{-1, 1, -1}, 1, true, []int{1}, 0},
		{[]int{0, -3, -2}, -2, true, nil, -2},
		{[]int{least, greatest}, greatest, true, []int{greatest}, 0},
		{[]int{greatest, greatest}, greatest, true, []int{greatest}, 0},
		{[]int{greatest, 0, 1}, greatest - 1, true, []int{0, 1}, greatest - 2},
	} {
		var l []api.Waiter
		for i, value := range c.values {
			l = append(l, row{i, 60, value, 0, -1}.waiter())
		}
		granted, others, left := waitlist.Grant(l, c.units, c.any)
		var values []int
		for _, w := range granted {
			values = append(values, w.Value)
		}
		if !slices.Equal(values, c.granted) || len(others) != len(l)-len(granted) || left != c.left {
			t.Errorf("P7.1: Grant of %d from %d, %t: %d, %d, %d", c.values, c.units, c.any, granted, others, left)
		}
	}
}

func TestP7_1Tasks(t *testing.T) {
	for _, l := range lists() {
		var want []int
		seen := map[int]bool{}
		for _, w := range l {
			if !seen[w.Task] {
				want = append(want, w.Task)
			}
			seen[w.Task] = true
		}
		if got := waitlist.Tasks(l); !slices.Equal(got, want) {
			t.Fatalf("P7.1: Tasks(%d): %d", brief(l), got)
		}
	}
	if got := waitlist.Tasks(list(row{7}, row{-1}, row{7}, row{16}, row{0}, row{-1}, row{greatest}, row{16}, row{15}, row{0})); !slices.Equal(got, []int{7, -1, 16, 0, greatest, 15}) {
		t.Fatalf("P7.1: Tasks: %d", got)
	}
}

func TestP7_1Examples(t *testing.T) {
	one, two, three := row{1, 50, 0, 5, -1}.waiter(), row{2, 50, 0, 3, -1}.waiter(), row{3, 50, 0, 5, -1}.waiter()
	if l := push(t, api.ByPriority, []api.Waiter{one, two}, three); !slices.Equal(l, []api.Waiter{one, three, two}) {
		t.Errorf("P7.1: Push: %d", l)
	}
	if l := push(t, api.FIFO, []api.Waiter{one, two}, three); !slices.Equal(l, []api.Waiter{one, two, three}) {
		t.Errorf("P7.1: Push: %d", l)
	}
	first := with(one, 3, 6)
	if l := push(t, api.ByPriority, []api.Waiter{one, two}, first); !slices.Equal(l, []api.Waiter{first, one, two}) {
		t.Errorf("P7.1: Push: %d", l)
	}
	if i, found := waitlist.Find([]api.Waiter{one, two, one, two}, 2); i != 1 || !found {
		t.Errorf("P7.1: Find: %d, %t", i, found)
	}
	if i, found := waitlist.Find([]api.Waiter{one, two, one, two}, 3); i != 0 || found {
		t.Errorf("P7.1: Find: %d, %t", i, found)
	}
	if l := waitlist.Remove([]api.Waiter{one, two, one, three}, 1); !slices.Equal(l, []api.Waiter{two, three}) {
		t.Errorf("P7.1: Remove: %d", l)
	}
}

// spoil overwrites the elements of a list, and what may lie behind it in memory.
func spoil[T any](l []T, with T) {
	full := l[:cap(l)]
	for i := range full {
		full[i] = with
	}
}

// results returns what all functions return that return waiters, with some, all and no waiters that are removed or granted.
func results(t *testing.T, q []api.Waiter) [][]api.Waiter {
	t.Helper()
	l := [][]api.Waiter{}
	for _, priority := range []int{9, 5, 4, 0} {
		l = append(l, push(t, api.ByPriority, q, row{9, 9, 9, priority, -1}.waiter()))
	}
	l = append(l, push(t, api.FIFO, q, row{9, 9, 9, 9, -1}.waiter()))
	for _, task := range []int{q[0].Task, q[1].Task, q[len(q)-1].Task, 9, -1} {
		l = append(l, waitlist.Remove(q, task))
	}
	for _, units := range []int{-1, 0, 2, 4, 100} {
		for _, any := range []bool{false, true} {
			granted, others, _ := waitlist.Grant(q, units, any)
			l = append(l, granted, others)
		}
	}
	return l
}

// TestP7_1Memory spoils a result, or the argument, which changes neither the argument nor another result.
func TestP7_1Memory(t *testing.T) {
	original := list(row{1, 60, 2, 5, -1}, row{2, 60, 4, 5, 0}, row{2, 60, 0, 4, 1}, row{3, 61, 1, 2, -1}, row{1, 60, 3, 2, 2})
	q := append(make([]api.Waiter, 0, 12), original...)
	want := results(t, original)
	for i := range want {
		got := results(t, q)
		spoil(got[i], row{-1, -1, -1, -1, -1}.waiter())
		for j := range got {
			if j != i && !slices.Equal(got[j], want[j]) {
				t.Errorf("P7.1: the result %d changes with the result %d: %d", j, i, got[j])
			}
		}
		if !slices.Equal(q[:cap(q)], append(slices.Clone(original), make([]api.Waiter, 7)...)) {
			t.Fatalf("P7.1: the argument changes with the result %d: %d", i, q[:cap(q)])
		}
	}
	tasks := waitlist.Tasks(q)
	spoil(waitlist.Tasks(q), -1)
	got := results(t, q)
	spoil(q, row{-1, -1, -1, -1, -1}.waiter())
	for i := range got {
		if !slices.Equal(got[i], want[i]) {
			t.Errorf("P7.1: the result %d changes with the argument: %d", i, got[i])
		}
	}
	if !slices.Equal(tasks, []int{1, 2, 3}) {
		t.Errorf("P7.1: Tasks: %d", tasks)
	}
}

// TestP7_2Insert takes the waiter that was pushed out again, which leads back to the queue.
func TestP7_2Insert(t *testing.T) {
	for _, discipline := range disciplines {
		for _, q := range queues(discipline) {
			for priority := range 10 {
				if len(q) == longest {
					continue
				}
				pushed := row{11, 77, 12345, priority, 3}.waiter()
				l := push(t, discipline, q, pushed)
				i := slices.Index(l, pushed)
				if i < 0 || !slices.Equal(slices.Delete(slices.Clone(l), i, i+1), q) {
					t.Fatalf("P7.2: Push(%d, %d, %d): %d", discipline, q, pushed, l)
				}
			}
		}
	}
}

// arrivals returns lists of up to 96 waiters that are numbered by their Values.
func arrivals() [][]api.Waiter {
	var all [][]api.Waiter
	for _, l := range listsOf(list(row{1, 50, 0, 0, -1}, row{1, 50, 0, 4, 0}, row{2, 50, 0, 5, -1}, row{15, 99, 0, 9, -1}), 5) {
		all = append(all, numbered(l))
	}
	for _, l := range largeQueues(api.FIFO) {
		all = append(all, numbered(l))
	}
	return all
}

// numbered returns a list with the indices of the waiters as their Values.
func numbered(l []api.Waiter) []api.Waiter {
	l = slices.Clone(l)
	for i := range l {
		l[i].Value = i
	}
	return l
}

// TestP7_2Arrival pushes waiters one after the other: those with equal priorities, or all for FIFO, stay in the order of their arrival.
func TestP7_2Arrival(t *testing.T) {
	for _, l := range arrivals() {
		for _, discipline := range disciplines {
			want := l
			if discipline == api.ByPriority {
				want = byPriority(l)
			}
			var q []api.Waiter
			for _, w := range l {
				q = push(t, discipline, q, w)
			}
			if !slices.Equal(q, want) {
				t.Fatalf("P7.2: pushing %d for %d: %d", l, discipline, q)
			}
		}
	}
}

func TestP7_3Priorities(t *testing.T) {
	for _, l := range arrivals() {
		for _, discipline := range disciplines {
			var q []api.Waiter
			for _, w := range l {
				q = push(t, discipline, q, w)
				if e := waitlist.Check(discipline, q); e != api.OK || expectedCheck(discipline, q) != api.OK {
					t.Fatalf("P7.3: %d is no queue for %d: %d", q, discipline, e)
				}
			}
			for i := range q {
				for j := range i {
					if discipline == api.ByPriority && q[j].Priority < q[i].Priority {
						t.Fatalf("P7.3: %d stands before %d", q[j], q[i])
					}
				}
			}
		}
	}
}

// TestP7_3Queues pushes waiters to queues, which leads to queues again, until they have 96 waiters.
func TestP7_3Queues(t *testing.T) {
	valid := validWaiters()
	for _, discipline := range disciplines {
		for i, q := range queues(discipline) {
			for j := i; len(q) < longest && j < i+5; j++ {
				q = push(t, discipline, q, valid[j%len(valid)])
				if waitlist.Check(discipline, q) != api.OK || expectedCheck(discipline, q) != api.OK {
					t.Fatalf("P7.3: %d is no queue for %d", q, discipline)
				}
			}
		}
	}
}

// isPart reports whether the elements of a list stand in another one in the same order.
func isPart(l, of []api.Waiter) bool {
	for _, w := range of {
		if len(l) > 0 && l[0] == w {
			l = l[1:]
		}
	}
	return len(l) == 0
}

func TestP7_4Removal(t *testing.T) {
	for _, l := range lists() {
		for _, task := range tasksOf(l) {
			removed := waitlist.Remove(l, task)
			if i, found := waitlist.Find(removed, task); i != 0 || found || slices.Contains(waitlist.Tasks(removed), task) {
				t.Fatalf("P7.4: the task %d is left in %d", task, brief(removed))
			}
			count := 0
			for _, w := range l {
				if w.Task == task {
					count++
				}
			}
			if len(removed) != len(l)-count || !isPart(removed, l) {
				t.Fatalf("P7.4: Remove(%d, %d): %d", brief(l), task, brief(removed))
			}
			if again := waitlist.Remove(removed, task); !slices.Equal(again, removed) {
				t.Fatalf("P7.4: removing %d again from %d: %d", task, brief(removed), brief(again))
			}
		}
	}
}

func TestP7_4Exchange(t *testing.T) {
	for _, l := range slices.Concat(shortLists(), largeQueues(api.FIFO), largeQueues(api.ByPriority), wildLists()[:90]) {
		tasks := tasksOf(l)
		for i, one := range tasks {
			for _, other := range tasks[i+1:] {
				a := waitlist.Remove(waitlist.Remove(l, one), other)
				b := waitlist.Remove(waitlist.Remove(l, other), one)
				if !slices.Equal(a, b) {
					t.Fatalf("P7.4: removing %d and %d from %d: %d, and in the other order: %d", one, other, l, a, b)
				}
			}
		}
	}
}

// TestP7_4Queues removes tasks from queues, which leads to queues again.
func TestP7_4Queues(t *testing.T) {
	for _, discipline := range disciplines {
		for _, q := range queues(discipline) {
			for task := range 16 {
				if l := waitlist.Remove(q, task); waitlist.Check(discipline, l) != api.OK {
					t.Fatalf("P7.4: Remove(%d, %d): %d is no queue for %d", q, task, l, discipline)
				}
			}
		}
	}
}

// marked returns a list with different numbers as the Ops of its waiters.
func marked(l []api.Waiter) []api.Waiter {
	l = slices.Clone(l)
	for i := range l {
		l[i].Op = i + 1
	}
	return l
}

// isMerged reports whether a list has the elements of two others, and no more, in their orders; no element stands twice in l.
func isMerged(l, a, b []api.Waiter) bool {
	for _, w := range l {
		switch {
		case len(a) > 0 && a[0] == w:
			a = a[1:]
		case len(b) > 0 && b[0] == w:
			b = b[1:]
		default:
			return false
		}
	}
	return len(a)+len(b) == 0
}

func TestP7_5Parts(t *testing.T) {
	for _, l := range lists() {
		l = marked(l)
		for _, units := range unitsFor(l) {
			for _, any := range []bool{false, true} {
				granted, others, left := waitlist.Grant(l, units, any)
				if !isMerged(l, granted, others) {
					t.Fatalf("P7.5: Grant(%d, %d, %t): %d, %d", brief(l), units, any, brief(granted), brief(others))
				}
				sum := left
				for _, w := range granted {
					sum += w.Value
				}
				if sum != units || units >= 0 && left < 0 {
					t.Fatalf("P7.5: Grant(%d, %d, %t): %d, and %d are left", brief(l), units, any, brief(granted), left)
				}
			}
		}
	}
}

func TestP7_6Order(t *testing.T) {
	for _, l := range lists() {
		l = marked(l)
		for _, units := range unitsFor(l) {
			granted, others, left := waitlist.Grant(l, units, false)
			n := min(len(granted), len(l))
			if !slices.Equal(granted, l[:n]) || !slices.Equal(others, l[n:]) || n < len(l) && fits(l[n], left) {
				t.Fatalf("P7.6: Grant(%d, %d, false): %d, %d, %d", brief(l), units, brief(granted), brief(others), left)
			}
			more, passed, rest := waitlist.Grant(l, units, true)
			for _, w := range passed {
				if fits(w, rest) {
					t.Fatalf("P7.6: Grant(%d, %d, true): %d is passed over, and %d are left", brief(l), units, w, rest)
				}
			}
			if len(more) < n || !slices.Equal(more[:n], granted) {
				t.Fatalf("P7.6: Grant(%d, %d, any): %d, and %d first", brief(l), units, brief(more), brief(granted))
			}
		}
	}
}

// fits reports whether a waiter can be granted from some units.
func fits(w api.Waiter, units int) bool {
	return 0 <= w.Value && w.Value <= units
}

func TestP7_7Tasks(t *testing.T) {
	for _, l := range lists() {
		tasks := waitlist.Tasks(l)
		last := -1
		for i, task := range tasks {
			if i < 100 && slices.Contains(tasks[:i], task) {
				t.Errorf("P7.7: Tasks(%d): %d stands twice", brief(l), task)
			}
			first, found := waitlist.Find(l, task)
			if !found || first <= last || first >= len(l) || l[first].Task != task {
				t.Fatalf("P7.7: Tasks(%d): %d is found at %d, %t, and the one before at %d", brief(l), task, first, found, last)
			}
			last = first
		}
		for i, w := range l[:min(len(l), 500)] {
			if !slices.Contains(tasks, w.Task) {
				t.Errorf("P7.7: Tasks(%d): %d is missing", brief(l), w.Task)
			}
			if first, found := waitlist.Find(l, w.Task); !found || first < 0 || first > i || l[first].Task != w.Task {
				t.Errorf("P7.7: Find(%d, %d): %d, %t", brief(l), w.Task, first, found)
			}
		}
	}
}
