package waitlist_test

import (
	"slices"

	"nursery/api"
)

const (
	least    = -1 << 63
	greatest = 1<<63 - 1
	maxInt   = 1 << 40
	longest  = 96
)

// disciplines are the disciplines of queues, and noDisciplines are other numbers.
var (
	disciplines   = []int{api.FIFO, api.ByPriority}
	noDisciplines = []int{least, -2, -1, 0, 3, 4, 256, maxInt, greatest}
)

// randoms returns a function that returns the next number of a fixed sequence, from 0 to n - 1.
func randoms(seed int) func(n int) int {
	x := uint64(seed)
	return func(n int) int {
		x = x*6364136223846793005 + 1442695040888963407
		return int(x >> 20 % uint64(n))
	}
}

// row is a waiter: its Task, Op, Value, Priority and Case.
type row [5]int

// ranges has the least and the greatest number of each part of a valid waiter.
var ranges = [5][2]int{{0, 15}, {1, 99}, {-maxInt, maxInt}, {0, 9}, {-1, 5}}

func (r row) waiter() api.Waiter {
	return api.Waiter{Task: r[0], Op: r[1], Value: r[2], Priority: r[3], Case: r[4]}
}

func rowOf(w api.Waiter) row {
	return row{w.Task, w.Op, w.Value, w.Priority, w.Case}
}

// list returns the waiters of some rows.
func list(rows ...row) []api.Waiter {
	var l []api.Waiter
	for _, r := range rows {
		l = append(l, r.waiter())
	}
	return l
}

// isValid reports whether a waiter is valid, by the definition.
func isValid(w api.Waiter) bool {
	for i, n := range rowOf(w) {
		if n < ranges[i][0] || n > ranges[i][1] {
			return false
		}
	}
	return true
}

// with returns a waiter with another number in one of its parts.
func with(w api.Waiter, part, n int) api.Waiter {
	r := rowOf(w)
	r[part] = n
	return r.waiter()
}

// validWaiters returns valid waiters with the ends of all ranges, alone and together.
func validWaiters() []api.Waiter {
	base := row{3, 61, 2, 4, -1}.waiter()
	l := []api.Waiter{base}
	low, high := base, base
	for part, r := range ranges {
		l = append(l, with(base, part, r[0]), with(base, part, r[0]+1), with(base, part, r[1]-1), with(base, part, r[1]))
		low, high = with(low, part, r[0]), with(high, part, r[1])
	}
	return append(l, low, high)
}

// wrongWaiters returns waiters with a number outside its range, or with several ones.
func wrongWaiters() []api.Waiter {
	base := row{3, 61, 2, 4, -1}.waiter()
	l := []api.Waiter{{}}
	low, high := base, base
	for part, r := range ranges {
		for _, n := range []int{r[0] - 1, r[1] + 1, least, -1 << 62, -maxInt - 1, maxInt + 1, 1 << 62, greatest} {
			l = append(l, with(base, part, n))
		}
		low, high = with(low, part, r[0]-1), with(high, part, r[1]+1)
		l = append(l, low, high)
	}
	return l
}

// randomWaiter returns a valid waiter with few different numbers, or with all of them.
func randomWaiter(next func(int) int, tasks, values, priorities int) api.Waiter {
	value := next(values)
	if next(10) == 0 {
		value = -value
	}
	return api.Waiter{Task: next(tasks), Op: 1 + next(99), Value: value, Priority: next(priorities), Case: next(7) - 1}
}

// byPriority returns the waiters of a list with greater priorities first, in their order otherwise.
func byPriority(l []api.Waiter) []api.Waiter {
	var sorted []api.Waiter
	for priority := 9; priority >= 0; priority-- {
		for _, w := range l {
			if w.Priority == priority {
				sorted = append(sorted, w)
			}
		}
	}
	return sorted
}

// listsOf returns all lists of at most n of some waiters.
func listsOf(some []api.Waiter, n int) [][]api.Waiter {
	all, last := [][]api.Waiter{nil}, [][]api.Waiter{nil}
	for range n {
		var longer [][]api.Waiter
		for _, l := range last {
			for _, w := range some {
				longer = append(longer, append(slices.Clone(l), w))
			}
		}
		all, last = append(all, longer...), longer
	}
	return all
}

// shortLists returns all lists of at most three of some waiters, of which some are not valid.
func shortLists() [][]api.Waiter {
	valid := list(row{0, 1, 0, 0, -1}, row{0, 2, 1, 5, 0}, row{1, 50, 2, 5, 5}, row{1, 99, 3, 4, -1}, row{15, 60, 4, 9, -1}, row{15, 61, maxInt, 0, 1}, row{7, 60, -1, 9, 2}, row{7, 60, -maxInt, 5, 2})
	wrong := list(row{-1, 1, 1, 5, -1}, row{16, 60, 2, 5, 0}, row{0, 0, 1, 5, -1}, row{1, 100, 2, 9, -1}, row{15, 1, maxInt + 1, 4, 0}, row{1, 1, -maxInt - 1, 0, 0}, row{2, 1, 1, -1, 0}, row{2, 1, greatest, 10, 0}, row{2, 3, least, 5, -2}, row{1, 1, 3, 5, 6})
	return listsOf(append(valid, wrong...), 3)
}

// largeQueues returns queues of up to 96 waiters for a discipline, with few tasks, Values and priorities, and with many.
func largeQueues(discipline int) [][]api.Waiter {
	next := randoms(discipline)
	var all [][]api.Waiter
	for _, size := range []int{1, 4, 5, 6, 16, 17, 40, 94, 95, 96} {
		for _, tasks := range []int{1, 3, 16} {
			for _, values := range []int{2, 9, maxInt + 1} {
				for _, priorities := range []int{1, 3, 10} {
					var l []api.Waiter
					for range size {
						l = append(l, randomWaiter(next, tasks, values, priorities))
					}
					if discipline == api.ByPriority {
						l = byPriority(l)
					}
					all = append(all, l)
				}
			}
		}
	}
	return all
}

// queues returns queues for a discipline: all short ones of some waiters, and large ones.
func queues(discipline int) [][]api.Waiter {
	all := append(largeQueues(discipline), []api.Waiter{})
	for _, l := range shortLists() {
		if expectedCheck(discipline, l) == api.OK {
			all = append(all, l)
		}
	}
	for _, w := range validWaiters() {
		all = append(all, []api.Waiter{w})
	}
	return all
}

// noQueues returns lists that are no queues for a discipline: short ones, queues with one change, and ones that are too long.
func noQueues(discipline int) [][]api.Waiter {
	var all [][]api.Waiter
	for _, l := range shortLists() {
		if expectedCheck(discipline, l) != api.OK {
			all = append(all, l)
		}
	}
	wrong := wrongWaiters()
	next := randoms(7)
	for _, q := range largeQueues(discipline) {
		bad := slices.Clone(q)
		bad[next(len(q))] = wrong[next(len(wrong))]
		all = append(all, bad)
		if discipline == api.ByPriority && len(q) > 1 && q[0].Priority > q[len(q)-1].Priority {
			i := 1 + slices.IndexFunc(q[1:], func(w api.Waiter) bool { return w.Priority < q[0].Priority })
			swapped := slices.Clone(q)
			swapped[0], swapped[i] = q[i], q[0]
			all = append(all, swapped)
		}
	}
	for _, size := range []int{longest + 1, longest + 2, 20000} {
		all = append(all, make([]api.Waiter, size), slices.Repeat(list(row{0, 1, 0, 0, -1}), size))
	}
	return all
}

// wildLists returns lists of waiters with all sorts of numbers, longer than queues, too, and with many tasks that are not valid.
func wildLists() [][]api.Waiter {
	numbers := []int{least, least + 1, -1 << 62, -maxInt - 1, -maxInt, -16, -2, -1, 0, 1, 2, 3, 14, 15, 16, 17, 96, 256, maxInt, maxInt + 1, 1 << 62, greatest - 1, greatest}
	next := randoms(5)
	var all [][]api.Waiter
	for _, size := range []int{1, 2, 3, 5, 10, 50, 96, 97, 300} {
		for range 10 {
			var l []api.Waiter
			for range size {
				n := func() int { return numbers[next(len(numbers))] }
				l = append(l, row{n(), n(), n(), n(), n()}.waiter())
			}
			all = append(all, l)
		}
	}
	var many []api.Waiter
	for i := range 5000 {
		many = append(many, row{i*7919%3000 - 1000, 1, i % 3, 10, 0}.waiter())
	}
	return append(all, many, slices.Repeat(list(row{16, 1, 1, 0, 0}), 20000))
}

// lists returns lists of all sorts: queues and others.
func lists() [][]api.Waiter {
	return slices.Concat(shortLists(), largeQueues(api.FIFO), largeQueues(api.ByPriority), wildLists(), [][]api.Waiter{{}})
}

// expectedCheck returns what Check returns, by the definition.
func expectedCheck(discipline int, l []api.Waiter) api.Errno {
	if discipline < 1 || discipline > 2 {
		return api.ErrKind
	}
	if len(l) > longest {
		return api.ErrLimit
	}
	before := greatest
	for _, w := range l {
		if !isValid(w) {
			return api.ErrRange
		}
		if discipline == 2 && w.Priority > before {
			return api.ErrOrder
		}
		before = w.Priority
	}
	return api.OK
}

// expectedPush returns a queue to which a waiter was pushed, by the definition.
func expectedPush(discipline int, q []api.Waiter, w api.Waiter) []api.Waiter {
	i := len(q)
	for discipline == 2 && i > 0 && q[i-1].Priority < w.Priority {
		i--
	}
	return slices.Concat(q[:i], []api.Waiter{w}, q[i:])
}

// expectedGrant returns what Grant returns, by the definition.
func expectedGrant(l []api.Waiter, units int, any bool) (granted, others []api.Waiter, left int) {
	left = units
	for i, w := range l {
		switch {
		case w.Value >= 0 && w.Value <= left:
			granted = append(granted, w)
			left -= w.Value
		case any:
			others = append(others, w)
		default:
			return granted, l[i:], left
		}
	}
	return granted, others, left
}

// tasksOf returns tasks to look for: those of some waiters of a list, and others.
func tasksOf(l []api.Waiter) []int {
	tasks := []int{least, -1, 0, 1, 7, 8, 15, 16, maxInt, greatest}
	for i := 0; i < len(l); i += 1 + len(l)/50 {
		tasks = append(tasks, l[i].Task)
	}
	if len(l) > 0 {
		tasks = append(tasks, l[len(l)-1].Task)
	}
	slices.Sort(tasks)
	return slices.Compact(tasks)
}

// unitsFor returns numbers of units: the ends of the range, small ones, and what the first waiters of a list need, less and more by one.
func unitsFor(l []api.Waiter) []int {
	units := []int{least, least + 1, -maxInt, -2, -1, 0, 1, 2, 3, 4, 5, 6, 7, 8, maxInt - 1, maxInt, maxInt + 1, 1 << 62, greatest}
	sum := 0
	for _, w := range l[:min(len(l), 100)] {
		if w.Value >= 0 && w.Value <= greatest-1-sum {
			sum += w.Value
			units = append(units, sum-1, sum, sum+1)
		}
	}
	slices.Sort(units)
	return slices.Compact(units)
}
