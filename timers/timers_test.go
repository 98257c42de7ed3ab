package timers_test

import (
	"slices"
	"testing"

	"nursery/api"
	"nursery/timers"
)

// add returns a queue with a timer that can be added.
func add(t *testing.T, l []api.Timer, added api.Timer) []api.Timer {
	t.Helper()
	q, e := timers.Add(l, added)
	if e != api.OK {
		t.Fatalf("Add(%d, %d): %d, %d", l, added, q, e)
	}
	return q
}

// addAll returns the queue to which some timers were added.
func addAll(t *testing.T, all []api.Timer) []api.Timer {
	t.Helper()
	var q []api.Timer
	for _, added := range all {
		q = add(t, q, added)
	}
	return q
}

// addable returns timers that are added to a queue: with each key, at some Times of the queue, and at others.
func addable(q []api.Timer) []api.Timer {
	times := []int{1, 2, maxTime - 1, maxTime}
	if len(q) > 5 {
		times = append(times, q[len(q)/2].Time, q[len(q)/2].Time%maxTime+1)
	}
	var l []api.Timer
	for _, n := range names() {
		for _, time := range times {
			l = append(l, api.Timer{Time: time, Kind: n.kind, Index: n.index})
		}
	}
	return l
}

// TestSamples makes sure that the samples are as many and as different as the other tests need them.
func TestSamples(t *testing.T) {
	longest := 0
	for _, q := range queues() {
		if expectedCheck(q) != api.OK {
			t.Errorf("%d is no queue", q)
		}
		longest = max(longest, len(q))
	}
	if len(smallQueues()) != 1024 || longest != 64 || len(names()) != 64 {
		t.Errorf("%d small queues, %d timers, %d keys", len(smallQueues()), longest, len(names()))
	}
	counts := map[api.Errno]int{}
	for _, l := range noQueues() {
		counts[expectedCheck(l)]++
	}
	for _, e := range []api.Errno{api.ErrKind, api.ErrRange, api.ErrOrder, api.ErrExists} {
		if counts[e] < 50 {
			t.Errorf("%d lists with the error %d", counts[e], e)
		}
	}
	if counts[api.OK] != 0 {
		t.Errorf("%d lists are queues", counts[api.OK])
	}
}

func TestP6_1Check(t *testing.T) {
	for _, l := range slices.Concat(queues(), shortLists(), noQueues()) {
		if e, want := timers.Check(l), expectedCheck(l); e != want {
			t.Errorf("P6.1: Check(%d): %d instead of %d", l[:min(len(l), 70)], e, want)
		}
	}
	for _, w := range wrongTimers() {
		if e := timers.Check([]api.Timer{w.t}); e != w.e {
			t.Errorf("P6.1: Check of %d: %d instead of %d", w.t, e, w.e)
		}
	}
}

// TestP6_1CheckExamples has lists to which several errors apply: the first one of the first timer counts.
func TestP6_1CheckExamples(t *testing.T) {
	for _, c := range []struct {
		l    []api.Timer
		want api.Errno
	}{
		{nil, api.OK},
		{[]api.Timer{}, api.OK},
		{list(7, 1, 1, 10, 1, 3, 10, 2, 2), api.OK},
		{list(1, 1, 15, 1, 2, 31, 1, 3, 15), api.OK},
		{list(1, 1, 0, 1, 2, 0, 1, 3, 0, maxTime, 1, 1), api.OK},
		{list(0, 0, -1), api.ErrKind},
		{list(maxTime+1, 4, 99), api.ErrKind},
		{list(1, 1, 16), api.ErrRange},
		{list(1, 2, 32), api.ErrRange},
		{list(1, 3, 16), api.ErrRange},
		{list(0, 1, 0), api.ErrRange},
		{list(maxTime+1, 1, 0), api.ErrRange},
		{list(2, 1, 0, 1, 0, 0), api.ErrKind},
		{list(2, 1, 0, 1, 1, -1), api.ErrRange},
		{list(2, 1, 0, 1, 1, 0), api.ErrOrder},
		{list(2, 1, 0, 2, 1, 0), api.ErrOrder},
		{list(2, 2, 0, 2, 1, 0), api.ErrOrder},
		{list(2, 2, 1, 2, 2, 0), api.ErrOrder},
		{list(2, 1, 0, 3, 1, 0), api.ErrExists},
		{list(2, 1, 0, 3, 1, 1, 4, 1, 0), api.ErrExists},
		{list(2, 1, 0, 4, 1, 1, 3, 1, 0), api.ErrOrder},
		{list(2, 1, 0, 3, 1, 0, 1, 0, 0), api.ErrExists},
		{list(2, 1, 0, 1, 1, 1, 0, 1, 0), api.ErrOrder},
	} {
		if e := timers.Check(c.l); e != c.want {
			t.Errorf("P6.1: Check(%d): %d instead of %d", c.l, e, c.want)
		}
	}
}

func TestP6_1Add(t *testing.T) {
	for _, q := range queues() {
		m := modelOf(q)
		for _, added := range addable(q) {
			if got, want := add(t, q, added), m.with(added); !slices.Equal(got, want) {
				t.Fatalf("P6.1: Add(%d, %d): %d instead of %d", q, added, got, want)
			}
		}
	}
}

func TestP6_1AddErrors(t *testing.T) {
	for _, q := range append(largeQueues(), nil, []api.Timer{}) {
		for _, w := range wrongTimers() {
			if l, e := timers.Add(q, w.t); len(l) != 0 || e != w.e {
				t.Errorf("P6.1: Add(%d, %d): %d, %d instead of %d", q, w.t, l, e, w.e)
			}
		}
	}
	added := list(1, 1, 1, 2, 1, 0, maxTime, 3, 15, 1, 0, 0, 0, 1, 0, 1, 1, 16, maxTime+1, 4, -1)
	for _, l := range noQueues() {
		for _, a := range append(added, l[0], l[len(l)-1]) {
			if got, e := timers.Add(l, a); len(got) != 0 || e != api.ErrArgument {
				t.Errorf("P6.1: Add(%d, %d): %d, %d", l[:min(len(l), 70)], a, got, e)
			}
		}
	}
}

func TestP6_1Remove(t *testing.T) {
	for _, q := range queues() {
		m := modelOf(q)
		for _, n := range append(names(), noNames()...) {
			if got, want := timers.Remove(q, n.kind, n.index), m.without(n); !slices.Equal(got, want) {
				t.Errorf("P6.1: Remove(%d, %d, %d): %d instead of %d", q, n.kind, n.index, got, want)
			}
		}
	}
}

func TestP6_1Find(t *testing.T) {
	for _, q := range queues() {
		m := modelOf(q)
		for _, n := range append(names(), noNames()...) {
			want, there := m[n]
			if time, found := timers.Find(q, n.kind, n.index); time != want || found != there {
				t.Errorf("P6.1: Find(%d, %d, %d): %d, %t instead of %d, %t", q, n.kind, n.index, time, found, want, there)
			}
		}
	}
}

func TestP6_1Next(t *testing.T) {
	for _, q := range queues() {
		want := 0
		for _, u := range q {
			if want == 0 || u.Time < want {
				want = u.Time
			}
		}
		if time, found := timers.Next(q); time != want || found != (len(q) > 0) {
			t.Errorf("P6.1: Next(%d): %d, %t", q, time, found)
		}
	}
}

func TestP6_1Expire(t *testing.T) {
	for _, q := range queues() {
		for _, now := range moments(q) {
			var early, late []api.Timer
			for _, u := range q {
				if u.Time <= now {
					early = append(early, u)
				} else {
					late = append(late, u)
				}
			}
			expired, others := timers.Expire(q, now)
			if !slices.Equal(expired, early) || !slices.Equal(others, late) {
				t.Errorf("P6.1: Expire(%d, %d): %d, %d", q, now, expired, others)
			}
		}
	}
}

// TestP6_1NoQueues has all functions but Check and Add with lists that are no queues, although what is looked for may be in them.
func TestP6_1NoQueues(t *testing.T) {
	for _, l := range noQueues() {
		first, last := nameOf(l[0]), nameOf(l[len(l)-1])
		for _, n := range []name{first, last, {1, 0}, {2, 31}, {0, 0}, {least, greatest}} {
			if got := timers.Remove(l, n.kind, n.index); len(got) != 0 {
				t.Errorf("P6.1: Remove(%d, %d, %d): %d", l[:min(len(l), 70)], n.kind, n.index, got)
			}
			if time, found := timers.Find(l, n.kind, n.index); time != 0 || found {
				t.Errorf("P6.1: Find(%d, %d, %d): %d", l[:min(len(l), 70)], n.kind, n.index, time)
			}
		}
		if time, found := timers.Next(l); time != 0 || found {
			t.Errorf("P6.1: Next(%d): %d", l[:min(len(l), 70)], time)
		}
		for _, now := range []int{least, 0, 1, l[0].Time, maxTime, greatest} {
			if expired, others := timers.Expire(l, now); len(expired)+len(others) != 0 {
				t.Errorf("P6.1: Expire(%d, %d): %d, %d", l[:min(len(l), 70)], now, expired, others)
			}
		}
	}
}

func TestP6_1Examples(t *testing.T) {
	q := addAll(t, list(10, api.DeadlineTimer, 2, 10, api.SleepTimer, 3, 7, api.SleepTimer, 1))
	if !slices.Equal(q, list(7, 1, 1, 10, 1, 3, 10, 2, 2)) {
		t.Errorf("P6.1: Add: %d", q)
	}
	if moved := add(t, q, api.Timer{Time: 12, Kind: api.SleepTimer, Index: 1}); !slices.Equal(moved, list(10, 1, 3, 10, 2, 2, 12, 1, 1)) {
		t.Errorf("P6.1: Add: %d", moved)
	}
	if l := timers.Remove(q, 1, 3); !slices.Equal(l, list(7, 1, 1, 10, 2, 2)) {
		t.Errorf("P6.1: Remove: %d", l)
	}
	if time, found := timers.Find(q, 2, 2); time != 10 || !found {
		t.Errorf("P6.1: Find: %d, %t", time, found)
	}
	if time, found := timers.Next(q); time != 7 || !found {
		t.Errorf("P6.1: Next: %d, %t", time, found)
	}
	expired, others := timers.Expire(q, 7)
	if !slices.Equal(expired, q[:1]) || !slices.Equal(others, q[1:]) {
		t.Errorf("P6.1: Expire: %d, %d", expired, others)
	}
}

// spoil overwrites the timers of a list, and what may lie behind it in memory.
func spoil(l []api.Timer) {
	full := l[:cap(l)]
	for i := range full {
		full[i] = api.Timer{Time: -1, Kind: -1, Index: -1}
	}
}

// results returns what all functions return that return timers: for keys that are in the queue and for others, and for no timer, some and all that expire.
func results(t *testing.T, q []api.Timer) [][]api.Timer {
	t.Helper()
	l := [][]api.Timer{add(t, q, api.Timer{Time: 5, Kind: 2, Index: 9}), add(t, q, api.Timer{Time: maxTime, Kind: 3, Index: 9}), add(t, q, api.Timer{Time: 1, Kind: 1, Index: 3}), add(t, q, q[0]), add(t, q, q[len(q)-1])}
	for _, n := range []name{nameOf(q[0]), nameOf(q[1]), {2, 9}, {0, 0}} {
		l = append(l, timers.Remove(q, n.kind, n.index))
	}
	for _, now := range []int{0, 7, 10, maxTime} {
		expired, others := timers.Expire(q, now)
		l = append(l, expired, others)
	}
	return l
}

// TestP6_1Memory spoils a result, or the argument, which changes neither the argument nor another result.
func TestP6_1Memory(t *testing.T) {
	original := list(7, 1, 1, 10, 1, 3, 10, 2, 2, 12, 3, 0)
	roomy := func() []api.Timer { return append(make([]api.Timer, 0, 10), original...) }
	q := roomy()
	want := results(t, original)
	for i := range want {
		got := results(t, q)
		spoil(got[i])
		for j := range got {
			if j != i && !slices.Equal(got[j], want[j]) {
				t.Errorf("P6.1: the result %d changes with the result %d: %d", j, i, got[j])
			}
		}
		if !slices.Equal(q[:cap(q)], append(slices.Clone(original), make([]api.Timer, 6)...)) {
			t.Fatalf("P6.1: the argument changes with the result %d: %d", i, q[:cap(q)])
		}
	}
	got := results(t, q)
	spoil(q)
	for i := range got {
		if !slices.Equal(got[i], want[i]) {
			t.Errorf("P6.1: the result %d changes with the argument: %d", i, got[i])
		}
	}
}

// TestP6_2Last adds all short sequences of timers of which some have the same key, and long ones.
func TestP6_2Last(t *testing.T) {
	some := list(1, 1, 0, 2, 1, 0, maxTime, 1, 0, 1, 2, 0, 2, 2, 0, 2, 2, 31, 1, 3, 15)
	sequences := listsOf(some, 4)
	next := randoms(2)
	for size := range 200 {
		var l []api.Timer
		for range size {
			n := names()[next(64)]
			l = append(l, api.Timer{Time: 1 + next(1+size/5), Kind: n.kind, Index: n.index})
		}
		sequences = append(sequences, l)
	}
	for _, l := range sequences {
		if q, want := addAll(t, l), modelOf(l).queue(); !slices.Equal(q, want) {
			t.Errorf("P6.2: adding %d: %d instead of %d", l, q, want)
		}
	}
}

// permutations returns the permutations of a list.
func permutations(l []api.Timer) [][]api.Timer {
	if len(l) == 0 {
		return [][]api.Timer{nil}
	}
	var all [][]api.Timer
	for i := range l {
		for _, others := range permutations(slices.Delete(slices.Clone(l), i, i+1)) {
			all = append(all, append(others, l[i]))
		}
	}
	return all
}

func shuffled(l []api.Timer, next func(int) int) []api.Timer {
	l = slices.Clone(l)
	for i := range l {
		j := next(i + 1)
		l[i], l[j] = l[j], l[i]
	}
	return l
}

func TestP6_2Order(t *testing.T) {
	for _, q := range smallQueues() {
		if len(q) > 4 {
			continue
		}
		for _, l := range permutations(q) {
			if got := addAll(t, l); !slices.Equal(got, q) {
				t.Errorf("P6.2: adding %d: %d", l, got)
			}
		}
	}
	next := randoms(3)
	for _, q := range largeQueues() {
		for range 20 {
			l := shuffled(q, next)
			if got := addAll(t, l); !slices.Equal(got, q) {
				t.Errorf("P6.2: adding %d: %d", l, got)
			}
		}
	}
}

func TestP6_3Back(t *testing.T) {
	for _, q := range queues() {
		m := modelOf(q)
		for _, added := range addable(q) {
			if _, there := m[nameOf(added)]; there {
				continue
			}
			back := timers.Remove(add(t, q, added), added.Kind, added.Index)
			if !slices.Equal(back, q) {
				t.Errorf("P6.3: %d, after %d was added and removed: %d", q, added, back)
			}
			if again := timers.Remove(back, added.Kind, added.Index); !slices.Equal(again, q) {
				t.Errorf("P6.3: %d, after %d was added and removed twice: %d", q, added, again)
			}
		}
	}
}

// TestP6_3Again removes what is in a queue, and what is not.
func TestP6_3Again(t *testing.T) {
	for _, q := range queues() {
		for _, n := range names() {
			once := timers.Remove(q, n.kind, n.index)
			if twice := timers.Remove(once, n.kind, n.index); !slices.Equal(twice, once) {
				t.Errorf("P6.3: removing (%d, %d) from %d: %d, and again: %d", n.kind, n.index, q, once, twice)
			}
			if e := timers.Check(once); e != api.OK {
				t.Errorf("P6.3: removing (%d, %d) from %d: %d", n.kind, n.index, q, once)
			}
		}
	}
}

func TestP6_4Parts(t *testing.T) {
	for _, q := range queues() {
		for _, now := range moments(q) {
			expired, others := timers.Expire(q, now)
			for _, u := range q {
				if slices.Contains(expired, u) == slices.Contains(others, u) {
					t.Errorf("P6.4: Expire(%d, %d): %d", q, now, u)
				}
			}
			if len(expired)+len(others) != len(q) {
				t.Errorf("P6.4: Expire(%d, %d): %d, %d", q, now, expired, others)
			}
			for _, u := range others {
				if u.Time <= now {
					t.Errorf("P6.4: Expire(%d, %d): %d remains", q, now, u)
				}
			}
			if timers.Check(expired) != api.OK || timers.Check(others) != api.OK {
				t.Errorf("P6.4: Expire(%d, %d): %d, %d are not queues", q, now, expired, others)
			}
		}
	}
}

func TestP6_4Later(t *testing.T) {
	for _, q := range append(largeQueues(), smallQueues()...) {
		times := moments(q)
		if len(times) > 40 {
			times = times[:40]
		}
		for i, now := range times {
			first, others := timers.Expire(q, now)
			for _, later := range times[i:] {
				second, left := timers.Expire(others, later)
				expired, remaining := timers.Expire(q, later)
				if !slices.Equal(slices.Concat(first, second), expired) || !slices.Equal(left, remaining) {
					t.Errorf("P6.4: %d at %d, and then at %d: %d, %d, %d", q, now, later, first, second, left)
				}
			}
		}
	}
}

func TestP6_5Find(t *testing.T) {
	for _, q := range queues() {
		found := 0
		for _, n := range append(names(), noNames()...) {
			time, there := timers.Find(q, n.kind, n.index)
			if !there {
				continue
			}
			found++
			if !slices.Contains(q, api.Timer{Time: time, Kind: n.kind, Index: n.index}) {
				t.Errorf("P6.5: Find(%d, %d, %d): %d", q, n.kind, n.index, time)
			}
		}
		if found != len(q) {
			t.Errorf("P6.5: %d timers are found in %d", found, q)
		}
		for _, u := range q {
			if time, there := timers.Find(q, u.Kind, u.Index); time != u.Time || !there {
				t.Errorf("P6.5: Find(%d, %d, %d): %d, %t", q, u.Kind, u.Index, time, there)
			}
		}
	}
}

// TestP6_5Changes finds what was added at the Time at which it was added last, and does not find what was removed.
func TestP6_5Changes(t *testing.T) {
	for _, q := range largeQueues() {
		for _, added := range addable(q) {
			with := add(t, q, added)
			if time, found := timers.Find(with, added.Kind, added.Index); time != added.Time || !found {
				t.Errorf("P6.5: %d, after %d was added: %d, %t", q, added, time, found)
			}
			without := timers.Remove(with, added.Kind, added.Index)
			if time, found := timers.Find(without, added.Kind, added.Index); time != 0 || found {
				t.Errorf("P6.5: %d, after %d was removed: %d, %t", q, added, time, found)
			}
		}
	}
}

func TestP6_6GoingOn(t *testing.T) {
	for _, q := range queues() {
		var all []api.Timer
		left, last := q, 0
		for now, more := timers.Next(left); more; now, more = timers.Next(left) {
			var expired []api.Timer
			expired, left = timers.Expire(left, now)
			if len(expired) == 0 || now <= last {
				t.Fatalf("P6.6: %d, at %d after %d: %d expire", q, now, last, expired)
			}
			for _, u := range expired {
				if u.Time != now {
					t.Errorf("P6.6: %d, at %d: %d expires", q, now, u)
				}
			}
			all, last = append(all, expired...), now
		}
		if !slices.Equal(all, q) || len(left) != 0 {
			t.Errorf("P6.6: %d: %d expire, %d remain", q, all, left)
		}
		if !slices.IsSortedFunc(all, func(a, b api.Timer) int { return a.Time - b.Time }) {
			t.Errorf("P6.6: %d: %d expire", q, all)
		}
	}
}
