package timers

import (
	"cmp"
	"iter"
	"slices"
	"sort"

	"nursery/api"
)

// key tells what a timer is for: a queue has at most one timer with each key.
type key struct{ kind, index int }

func keyOf(t api.Timer) key {
	return key{t.Kind, t.Index}
}

func (k key) isOf(t api.Timer) bool {
	return keyOf(t) == k
}

// queue is a list of timers in their order, to which another one is to be added.
type queue struct {
	timers []api.Timer
	added  api.Timer
}

// place returns the index that the added timer gets.
func (q queue) place() int {
	return sort.Search(len(q.timers), q.isBehind)
}

// isBehind reports whether the timer with an index belongs behind the added one.
func (q queue) isBehind(i int) bool {
	return compare(q.timers[i], q.added) > 0
}

// compare compares two timers by the order of queues.
func compare(a, b api.Timer) int {
	return cmp.Or(cmp.Compare(a.Time, b.Time), cmp.Compare(a.Kind, b.Kind), cmp.Compare(a.Index, b.Index))
}

// checkTimer returns why t is not valid.
func checkTimer(t api.Timer) api.Errno {
	n := indices(t.Kind)
	if n == 0 {
		return api.ErrKind
	}
	if t.Index < 0 || t.Index >= n || t.Time < 1 || t.Time > api.MaxTime {
		return api.ErrRange
	}
	return api.OK
}

// indices returns the number of indices that timers of a kind may have, or 0 if there is no such kind.
func indices(kind int) int {
	switch kind {
	case api.SleepTimer:
		return api.MaxTasks
	case api.DeadlineTimer:
		return api.MaxScopes
	case api.RefillTimer:
		return api.MaxObjects
	}
	return 0
}

// without returns the timers of l but for those with a key, in new memory.
func without(l []api.Timer, k key) []api.Timer {
	return slices.DeleteFunc(slices.Clone(l), k.isOf)
}

// due yields the timers of a queue whose Time is at most now.
func due(l []api.Timer, now int) iter.Seq[api.Timer] {
	return func(yield func(api.Timer) bool) {
		for _, t := range l {
			if t.Time > now || !yield(t) {
				return
			}
		}
	}
}
