package deque

import (
	"slices"

	"nursery/api"
)

// Kinds of operations.
const (
	pushKind  = 1
	popKind   = 2
	stealKind = 3
)

// noTask is the result of taking a task out of an empty deque while operations are played.
const noTask = -1

// operation is what the operations of a kind do.
type operation struct {
	// perform returns the deque behind an operation with a task, and its result.
	perform   func(l []int, task int) ([]int, int, api.Errno)
	hasResult bool
}

// operations returns the operations by their kinds.
func operations() [stealKind + 1]operation {
	return [stealKind + 1]operation{
		pushKind:  {perform: push},
		popKind:   {perform: takeBy(Pop), hasResult: true},
		stealKind: {perform: takeBy(Steal), hasResult: true},
	}
}

// operationOf returns the operation of a kind, if there is one.
func operationOf(kind int) (operation, bool) {
	if kind < pushKind || kind > stealKind {
		return operation{}, false
	}
	return operations()[kind], true
}

func push(l []int, task int) ([]int, int, api.Errno) {
	next, e := Push(l, task)
	return next, 0, e
}

// takeBy returns a function that takes a task out of a deque, or noTask if it is empty.
func takeBy(take func([]int) ([]int, int, api.Errno)) func([]int, int) ([]int, int, api.Errno) {
	return func(l []int, _ int) ([]int, int, api.Errno) {
		others, task, e := take(l)
		if e == api.ErrEmpty {
			return nil, noTask, api.OK
		}
		return others, task, e
	}
}

// checkNew returns why a task cannot stand behind others.
func checkNew(others []int, task int) api.Errno {
	if task < 0 || task >= api.MaxTasks {
		return api.ErrRange
	}
	if slices.Contains(others, task) {
		return api.ErrExists
	}
	return api.OK
}

// checkSome returns why l is no deque from which a task can be taken.
func checkSome(l []int) api.Errno {
	if e := Check(l); e != api.OK {
		return e
	}
	if len(l) == 0 {
		return api.ErrEmpty
	}
	return api.OK
}

// cut returns the upper n tasks of a deque, and the others, each in new memory.
func cut(l []int, n int) (upper, others []int) {
	upper, others = make([]int, n), make([]int, len(l)-n)
	copy(upper, l)
	copy(others, l[n:])
	return upper, others
}
