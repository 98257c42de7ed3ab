package deque_test

import (
	"slices"

	"nursery/api"
)

const (
	least    = -1 << 63
	greatest = 1<<63 - 1
	maxInt   = 1 << 40
	tasks    = 16
	longest  = 1000 // operations that can be played together
)

// noTasks are numbers that are no tasks, some of which look like tasks when they are cut to fewer bits.
var noTasks = []int{least, least + 1, -1 << 62, -maxInt, -1<<32 + 3, -256, -17, -16, -15, -2, -1, 16, 17, 31, 32, 256, 257, 1<<32 + 3, maxInt, 1 << 62, greatest - 1, greatest}

// noKinds are numbers that are no kinds of operations.
var noKinds = []int{least, least + 1, least + 2, -1 << 62, -3, -2, -1, 0, 4, 5, 257, 1<<32 + 1, maxInt, 1 << 62, greatest}

// randoms returns a function that returns the next number of a fixed sequence, from 0 to n - 1.
func randoms(seed int) func(n int) int {
	x := uint64(seed)
	return func(n int) int {
		x = x*6364136223846793005 + 1442695040888963407
		return int(x >> 20 % uint64(n))
	}
}

func pushOf(x int) api.Edge {
	return api.Edge{From: 1, To: x}
}

// pop and steal have a To that does not matter.
var (
	pop   = api.Edge{From: 2, To: -7}
	steal = api.Edge{From: 3, To: 16}
)

// pushes returns operations that push some tasks.
func pushes(l []int) []api.Edge {
	var ops []api.Edge
	for _, x := range l {
		ops = append(ops, pushOf(x))
	}
	return ops
}

// model is a deque whose tasks are known by their positions from top to bottom - 1.
type model struct {
	at          map[int]int
	top, bottom int
}

func modelOf(l []int) *model {
	m := &model{at: map[int]int{}}
	for _, x := range l {
		m.push(x)
	}
	return m
}

func (m *model) push(x int) {
	m.at[m.bottom] = x
	m.bottom++
}

func (m *model) pop() int {
	if m.top == m.bottom {
		return -1
	}
	m.bottom--
	return m.at[m.bottom]
}

func (m *model) steal() int {
	if m.top == m.bottom {
		return -1
	}
	m.top++
	return m.at[m.top-1]
}

// list returns the tasks of a model from the top to the bottom.
func (m *model) list() []int {
	var l []int
	for i := m.top; i < m.bottom; i++ {
		l = append(l, m.at[i])
	}
	return l
}

// expectedNew returns why x cannot be pushed to a deque, by the definition.
func expectedNew(l []int, x int) api.Errno {
	if x < 0 || x > 15 {
		return api.ErrRange
	}
	for _, y := range l {
		if x == y {
			return api.ErrExists
		}
	}
	return api.OK
}

// expectedCheck returns what Check returns, by the definition.
func expectedCheck(l []int) api.Errno {
	if len(l) > 16 {
		return api.ErrLimit
	}
	for i := range l {
		if e := expectedNew(l[:i], l[i]); e != api.OK {
			return e
		}
	}
	return api.OK
}

// expectedPlay returns what Play returns, by the definition.
func expectedPlay(l []int, ops []api.Edge) (left, results []int, e api.Errno) {
	if e := expectedCheck(l); e != api.OK {
		return nil, nil, e
	}
	if len(ops) > 1000 {
		return nil, nil, api.ErrLimit
	}
	m := modelOf(l)
	for _, op := range ops {
		switch op.From {
		case 1:
			if e := expectedNew(m.list(), op.To); e != api.OK {
				return nil, nil, e
			}
			m.push(op.To)
		case 2:
			results = append(results, m.pop())
		case 3:
			results = append(results, m.steal())
		default:
			return nil, nil, api.ErrKind
		}
	}
	return m.list(), results, api.OK
}

// listsOf returns all lists of at most n of some elements.
func listsOf[T any](some []T, n int) [][]T {
	all, last := [][]T{nil}, [][]T{nil}
	for range n {
		var longer [][]T
		for _, l := range last {
			for _, x := range some {
				longer = append(longer, append(slices.Clone(l), x))
			}
		}
		all, last = append(all, longer...), longer
	}
	return all
}

// allTasks returns the tasks in some order.
func allTasks(next func(int) int) []int {
	var l []int
	for x := range tasks {
		l = slices.Insert(l, next(x+1), x)
	}
	return l
}

// largeDeques returns deques of all sizes.
func largeDeques() [][]int {
	next := randoms(1)
	all := [][]int{{}}
	for size := 1; size <= tasks; size++ {
		for range 8 {
			all = append(all, allTasks(next)[:size:size])
		}
	}
	return all
}

// deques returns all short deques of some tasks, and large ones.
func deques() [][]int {
	all := largeDeques()
	for _, l := range listsOf([]int{0, 1, 7, 14, 15}, 4) {
		if expectedCheck(l) == api.OK {
			all = append(all, l)
		}
	}
	return all
}

// noDeques returns lists that are no deques: short ones, deques with one change, and ones that are too long.
func noDeques() [][]int {
	var all [][]int
	for _, l := range listsOf([]int{0, 1, 15, -1, 16, least, greatest}, 4) {
		if expectedCheck(l) != api.OK {
			all = append(all, l)
		}
	}
	for _, x := range noTasks {
		all = append(all, []int{x})
	}
	next := randoms(2)
	for _, l := range largeDeques()[1:] {
		wrong := slices.Clone(l)
		wrong[next(len(l))] = noTasks[next(len(noTasks))]
		all = append(all, wrong, append(slices.Clone(l), l[next(len(l))]))
		if len(l) > 1 {
			twice := slices.Clone(l)
			i := next(len(l) - 1)
			twice[i+1+next(len(l)-i-1)] = l[i]
			all = append(all, twice)
		}
	}
	for _, size := range []int{tasks + 1, tasks + 2, 20000} {
		var ascending []int
		for i := range size {
			ascending = append(ascending, i)
		}
		all = append(all, ascending, slices.Repeat(allTasks(next), size)[:size], make([]int, size), slices.Repeat([]int{-1}, size))
	}
	return all
}

// shortPlays returns all lists of at most four of some operations; not all of them can be performed.
func shortPlays() [][]api.Edge {
	return listsOf([]api.Edge{pushOf(0), pushOf(1), pushOf(15), pop, steal}, 4)
}

// wrongOperations returns operations that cannot be performed on any deque.
func wrongOperations() []api.Edge {
	l := pushes(noTasks)
	for _, kind := range noKinds {
		l = append(l, api.Edge{From: kind}, api.Edge{From: kind, To: 3}, api.Edge{From: kind, To: -1})
	}
	return l
}

// run returns n operations that can be performed on a deque; of 10 of them about so many push.
func run(next func(int) int, l []int, n, pushing int) []api.Edge {
	m := modelOf(l)
	var ops []api.Edge
	for range n {
		present := m.list()
		kind := 2 + next(2)
		if next(10) < pushing && len(present) < tasks {
			kind = 1
		}
		x := next(tasks)
		for kind == 1 && slices.Contains(present, x) {
			x = (x + 1) % tasks
		}
		switch kind {
		case 1:
			m.push(x)
		case 2:
			m.pop()
		case 3:
			m.steal()
		}
		ops = append(ops, api.Edge{From: kind, To: x})
	}
	return ops
}

// play is a deque and operations.
type play struct {
	l   []int
	ops []api.Edge
}

// runs returns deques with operations that can be performed on them, with few and with many tasks in the deque meanwhile.
func runs() []play {
	next := randoms(3)
	var all []play
	for _, l := range largeDeques() {
		for _, size := range []int{0, 1, 2, 5, 20, 60} {
			for _, pushing := range []int{0, 2, 5, 7, 10} {
				all = append(all, play{l, run(next, l, size, pushing)})
			}
		}
	}
	for _, pushing := range []int{1, 3, 5, 6, 8, 10} {
		for _, l := range [][]int{nil, allTasks(next), allTasks(next)[:5]} {
			all = append(all, play{l, run(next, l, longest-1, pushing)}, play{l, run(next, l, longest, pushing)})
		}
	}
	return all
}

// shortRuns returns short deques with short lists of operations that can be performed on them.
func shortRuns() []play {
	var all []play
	for _, l := range deques() {
		for _, ops := range shortPlays() {
			if _, _, e := expectedPlay(l, ops); e == api.OK && len(l) <= 3 {
				all = append(all, play{l, ops})
			}
		}
	}
	return all
}

// broken returns runs with an operation that cannot be performed, at the beginning, at the end, or in between.
func broken() []play {
	next := randoms(4)
	wrong := wrongOperations()
	var all []play
	for _, p := range runs() {
		if len(p.ops) == longest {
			continue
		}
		for _, i := range []int{0, next(len(p.ops) + 1), len(p.ops)} {
			all = append(all, play{p.l, slices.Insert(slices.Clone(p.ops), i, wrong[next(len(wrong))])})
			before, _, _ := expectedPlay(p.l, p.ops[:i])
			if len(before) > 0 {
				again := pushOf(before[next(len(before))])
				all = append(all, play{p.l, slices.Insert(slices.Clone(p.ops), i, again)})
			}
		}
	}
	return all
}
