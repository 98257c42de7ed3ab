package waitlist

import (
	"slices"

	"nursery/api"
)

const (
	maxWaiters  = api.MaxTasks * api.MaxCases
	maxOp       = 99
	maxPriority = 9
)

func isValid(w api.Waiter) bool {
	return isTask(w.Task) &&
		w.Op >= 1 && w.Op <= maxOp &&
		w.Value >= -api.MaxInt && w.Value <= api.MaxInt &&
		w.Priority >= 0 && w.Priority <= maxPriority &&
		w.Case >= -1 && w.Case < api.MaxCases
}

func isTask(task int) bool {
	return task >= 0 && task < api.MaxTasks
}

// isOf returns a function that reports whether a waiter is one of the task.
func isOf(task int) func(api.Waiter) bool {
	return func(w api.Waiter) bool { return w.Task == task }
}

// place returns the index that a waiter with a priority gets in a queue.
func place(discipline int, l []api.Waiter, priority int) int {
	if discipline == api.FIFO {
		return len(l)
	}
	i := slices.IndexFunc(l, func(w api.Waiter) bool { return w.Priority < priority })
	if i < 0 {
		return len(l)
	}
	return i
}

// split returns the waiters that are chosen, and the others, both in their order and in new memory.
func split(l []api.Waiter, isChosen func(api.Waiter) bool) (chosen, others []api.Waiter) {
	for _, w := range l {
		if isChosen(w) {
			chosen = append(chosen, w)
		} else {
			others = append(others, w)
		}
	}
	return chosen, others
}

// taskSet is a set of tasks.
type taskSet struct {
	valid [api.MaxTasks]bool
	// others has the tasks that are not valid: lists that are no queues may have them.
	others map[int]bool
}

// add adds a task, and reports whether it is new.
func (s *taskSet) add(task int) bool {
	if isTask(task) {
		isNew := !s.valid[task]
		s.valid[task] = true
		return isNew
	}
	if s.others[task] {
		return false
	}
	if s.others == nil {
		s.others = map[int]bool{}
	}
	s.others[task] = true
	return true
}
