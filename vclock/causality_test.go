package vclock_test

import (
	"slices"
	"testing"

	"nursery/api"
	"nursery/vclock"
)

// event is an event of a run: its process, and the events that this learns of, by their positions.
type event struct {
	process int
	learned []int
}

// run has the events in an order in which each process learns of earlier events only.
type run struct {
	processes int
	events    []event
}

// clocks returns the clock of each event.
func (r run) clocks(t *testing.T) []api.Clock {
	t.Helper()
	current := make([]api.Clock, r.processes)
	for p := range current {
		zeros, e := vclock.New(r.processes)
		if e != api.OK {
			t.Fatalf("New(%d): %d", r.processes, e)
		}
		current[p] = zeros
	}
	all := make([]api.Clock, len(r.events))
	for i, event := range r.events {
		c := current[event.process]
		for _, j := range event.learned {
			c = join(t, c, all[j])
		}
		c = tick(t, c, event.process)
		current[event.process], all[i] = c, c
	}
	return all
}

// happensBefore returns for each two events whether the first one happens before the second one: it is an earlier event of the process, or the process learns of it, or it happens before such an event.
func (r run) happensBefore() [][]bool {
	before := make([][]bool, len(r.events))
	for i := range before {
		before[i] = make([]bool, len(r.events))
	}
	for j, later := range r.events {
		for i, earlier := range r.events[:j] {
			if earlier.process != later.process && !slices.Contains(later.learned, i) {
				continue
			}
			for k := range before {
				before[k][j] = before[k][j] || k == i || before[k][i]
			}
		}
	}
	return before
}

// check reports it if the clocks of two events do not say whether one of them happens before the other one, and returns for how many pairs it happens.
func (r run) check(t *testing.T) int {
	t.Helper()
	all, before, count := r.clocks(t), r.happensBefore(), 0
	for i, c := range all {
		own := r.events[i].process
		for j, d := range all {
			if i == j {
				continue
			}
			if got := vclock.Compare(c, d) == api.ClockBefore; got != before[i][j] {
				t.Fatalf("P5.5: %d: the clock of the event %d is %d, that of %d is %d", r, i, c, j, d)
			}
			if got := vclock.Covers(d, own, c[own]); got != before[i][j] {
				t.Fatalf("P5.5: %d: the clock of the event %d is %d, and covers that of %d or not: %d", r, j, d, i, c)
			}
			if before[i][j] {
				count++
			}
		}
	}
	return count
}

// checkAllRuns checks all runs that begin with the events of r, and have size events.
func checkAllRuns(t *testing.T, r run, size int) int {
	t.Helper()
	n := len(r.events)
	if n == size {
		r.check(t)
		return 1
	}
	count := 0
	for p := range r.processes {
		for chosen := range 1 << n {
			var learned []int
			for i := range n {
				if chosen>>i&1 == 1 {
					learned = append(learned, i)
				}
			}
			count += checkAllRuns(t, run{r.processes, append(slices.Clone(r.events), event{p, learned})}, size)
		}
	}
	return count
}

// TestP5_5AllRuns has all runs of few events, in which a process may learn of any number of events at once.
func TestP5_5AllRuns(t *testing.T) {
	for _, c := range []struct{ processes, size, want int }{{1, 4, 64}, {2, 4, 1024}, {3, 4, 5184}, {4, 3, 512}, {2, 5, 32768}} {
		if n := checkAllRuns(t, run{processes: c.processes}, c.size); n != c.want {
			t.Errorf("%d runs of %d events by %d processes", n, c.size, c.processes)
		}
	}
}

// TestP5_5LongRuns has long runs, in which some processes learn much of others, and some little.
func TestP5_5LongRuns(t *testing.T) {
	next := randoms(5)
	for _, processes := range []int{1, 2, 3, 10, most} {
		for _, often := range []int{1, 2, 5, 20} {
			r := run{processes: processes}
			for i := range 150 {
				var learned []int
				for i > 0 && next(often) == 0 && len(learned) < 4 {
					learned = append(learned, next(i))
				}
				r.events = append(r.events, event{next(processes), learned})
			}
			before := r.check(t)
			if all := 150 * 149 / 2; processes > 1 && (before == 0 || before == all) {
				t.Errorf("%d of %d pairs are ordered", before, all)
			}
		}
	}
}
