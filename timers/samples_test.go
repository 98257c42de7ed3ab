package timers_test

import (
	"maps"
	"slices"

	"nursery/api"
)

const (
	least    = -1 << 63
	greatest = 1<<63 - 1
	maxTime  = 1 << 40
)

// randoms returns a function that returns the next number of a fixed sequence, from 0 to n - 1.
func randoms(seed int) func(n int) int {
	x := uint64(seed)
	return func(n int) int {
		x = x*6364136223846793005 + 1442695040888963407
		return int(x >> 20 % uint64(n))
	}
}

// list returns the timers with the Times, Kinds and Indices that follow each other.
func list(numbers ...int) []api.Timer {
	var l []api.Timer
	for n := range slices.Chunk(numbers, 3) {
		l = append(l, api.Timer{Time: n[0], Kind: n[1], Index: n[2]})
	}
	return l
}

// name is the key of a timer.
type name struct{ kind, index int }

func nameOf(t api.Timer) name {
	return name{t.Kind, t.Index}
}

// indexCounts has the number of indices for each kind.
var indexCounts = []int{0, 16, 32, 16}

// names returns the keys of all valid timers.
func names() []name {
	var l []name
	for kind := 1; kind <= 3; kind++ {
		for index := range indexCounts[kind] {
			l = append(l, name{kind, index})
		}
	}
	return l
}

// noNames returns pairs of numbers that are no keys of valid timers.
func noNames() []name {
	l := []name{{1, 16}, {1, 31}, {2, 32}, {3, 16}, {3, 31}}
	for _, kind := range []int{least, -1, 0, 4, 5, maxTime, greatest} {
		for _, index := range []int{least, -1, 0, 1, 15, 31, greatest} {
			l = append(l, name{kind, index})
		}
	}
	for kind := 1; kind <= 3; kind++ {
		for _, index := range []int{least, -2, -1, 33, 256, maxTime, greatest} {
			l = append(l, name{kind, index})
		}
	}
	return l
}

// model has the Times of the timers of a queue by their keys.
type model map[name]int

func modelOf(l []api.Timer) model {
	m := model{}
	for _, t := range l {
		m[nameOf(t)] = t.Time
	}
	return m
}

// queue returns the timers of a model, in their order.
func (m model) queue() []api.Timer {
	var l []api.Timer
	for _, time := range slices.Compact(slices.Sorted(maps.Values(m))) {
		for _, n := range names() {
			if other, found := m[n]; found && other == time {
				l = append(l, api.Timer{Time: time, Kind: n.kind, Index: n.index})
			}
		}
	}
	return l
}

// with returns the queue of a model after a timer was added.
func (m model) with(t api.Timer) []api.Timer {
	changed := maps.Clone(m)
	changed[nameOf(t)] = t.Time
	return changed.queue()
}

// without returns the queue of a model after a timer was removed.
func (m model) without(n name) []api.Timer {
	changed := maps.Clone(m)
	delete(changed, n)
	return changed.queue()
}

// smallQueues returns all queues of timers with some keys and Times.
func smallQueues() [][]api.Timer {
	models := []model{{}}
	for _, n := range []name{{1, 0}, {1, 15}, {2, 0}, {2, 31}, {3, 15}} {
		for _, m := range models {
			for _, time := range []int{1, 2, maxTime} {
				longer := maps.Clone(m)
				longer[n] = time
				models = append(models, longer)
			}
		}
	}
	var l [][]api.Timer
	for _, m := range models {
		l = append(l, m.queue())
	}
	return l
}

// largeQueues returns queues of up to 64 timers, with many equal Times, with some, or with hardly any.
func largeQueues() [][]api.Timer {
	next := randoms(1)
	var l [][]api.Timer
	for _, size := range []int{1, 2, 3, 20, 100, maxTime} {
		for _, percent := range []int{10, 50, 90, 100} {
			m := model{}
			for _, n := range names() {
				if next(100) < percent {
					m[n] = 1 + next(size)
				}
			}
			l = append(l, m.queue())
		}
	}
	return l
}

func queues() [][]api.Timer {
	return slices.Concat(smallQueues(), largeQueues(), [][]api.Timer{{}})
}

// wrongTimer is a timer that is not valid, and the error that says why.
type wrongTimer struct {
	t api.Timer
	e api.Errno
}

func wrongTimers() []wrongTimer {
	var l []wrongTimer
	for _, n := range noNames() {
		e := api.ErrKind
		if n.kind >= 1 && n.kind <= 3 {
			e = api.ErrRange
		}
		for _, time := range []int{least, 0, 1, maxTime, greatest} {
			l = append(l, wrongTimer{api.Timer{Time: time, Kind: n.kind, Index: n.index}, e})
		}
	}
	for _, n := range names() {
		for _, time := range []int{least, -maxTime, -1, 0, maxTime + 1, 1 << 62, greatest} {
			l = append(l, wrongTimer{api.Timer{Time: time, Kind: n.kind, Index: n.index}, api.ErrRange})
		}
	}
	return l
}

// isBefore reports whether a is before b in the order of timers, by the definition.
func isBefore(a, b api.Timer) bool {
	if a.Time != b.Time {
		return a.Time < b.Time
	}
	if a.Kind != b.Kind {
		return a.Kind < b.Kind
	}
	return a.Index < b.Index
}

// expectedCheck returns what Check returns for a list, by the definition.
func expectedCheck(l []api.Timer) api.Errno {
	seen := map[name]bool{}
	for i, t := range l {
		switch {
		case t.Kind < 1 || t.Kind > 3:
			return api.ErrKind
		case t.Index < 0 || t.Index >= indexCounts[t.Kind], t.Time < 1, t.Time > maxTime:
			return api.ErrRange
		case i > 0 && !isBefore(l[i-1], t):
			return api.ErrOrder
		case seen[nameOf(t)]:
			return api.ErrExists
		}
		seen[nameOf(t)] = true
	}
	return api.OK
}

// listsOf returns all lists of at most n of some timers.
func listsOf(some []api.Timer, n int) [][]api.Timer {
	all, longest := [][]api.Timer{nil}, [][]api.Timer{nil}
	for range n {
		var longer [][]api.Timer
		for _, l := range longest {
			for _, t := range some {
				longer = append(longer, append(slices.Clone(l), t))
			}
		}
		all, longest = append(all, longer...), longer
	}
	return all
}

// shortLists returns all lists of at most three of some timers, of which some are not valid.
func shortLists() [][]api.Timer {
	valid := list(1, 1, 0, 1, 1, 15, 1, 2, 0, 1, 3, 0, 2, 1, 0, 2, 1, 1, 2, 2, 31, 2, 3, 15, maxTime, 1, 0, maxTime, 2, 31)
	wrong := list(1, 0, 0, 0, 4, -1, 1, 1, -1, 1, 1, 16, 2, 2, 32, 2, 3, 16, 0, 1, 0, maxTime+1, 2, 31)
	return listsOf(append(valid, wrong...), 3)
}

// noQueues returns lists that are no queues: short ones, and queues with one change.
func noQueues() [][]api.Timer {
	var l [][]api.Timer
	for _, s := range shortLists() {
		if expectedCheck(s) != api.OK {
			l = append(l, s)
		}
	}
	for _, q := range largeQueues() {
		l = append(l, changes(q)...)
	}
	return append(l, make([]api.Timer, 20000), slices.Repeat(list(1, 1, 0), 20000))
}

// changes returns a queue with a timer that is wrong, or that stands at a wrong place, or again at a later Time.
func changes(q []api.Timer) [][]api.Timer {
	next := randoms(len(q))
	var l [][]api.Timer
	for i := range q {
		wrong := wrongTimers()
		bad := slices.Clone(q)
		bad[i] = wrong[next(len(wrong))].t
		l = append(l, bad, slices.Insert(slices.Clone(q), i, q[i]))
		if i > 0 {
			swapped := slices.Clone(q)
			swapped[i-1], swapped[i] = q[i], q[i-1]
			l = append(l, swapped)
		}
		again := q[i]
		again.Time = q[len(q)-1].Time + 1
		l = append(l, append(slices.Clone(q), again))
	}
	return l
}

// moments returns times before, at and after the Times of a queue, and others.
func moments(q []api.Timer) []int {
	l := []int{least, -maxTime, -1, 0, 1, 2, 3, maxTime - 1, maxTime, maxTime + 1, greatest}
	for _, t := range q {
		l = append(l, t.Time-1, t.Time, t.Time+1)
	}
	slices.Sort(l)
	return slices.Compact(l)
}
