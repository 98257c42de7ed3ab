package vclock

import "nursery/api"

// clock is a clock with methods, which also may be called for a clock that is not valid.
type clock api.Clock

func (c clock) has(i int) bool {
	return 0 <= i && i < len(c)
}

// covers reports whether the component i is there, and at least n.
func (c clock) covers(i, n int) bool {
	return c.has(i) && c[i] >= n
}

// all reports whether a condition is true for each index and component.
func (c clock) all(condition func(i, n int) bool) bool {
	for i, n := range c {
		if !condition(i, n) {
			return false
		}
	}
	return true
}

// atMost reports whether c is less than or equal to d, which has as many components.
func (c clock) atMost(d clock) bool {
	return c.all(d.covers)
}

// inRange reports whether n may be a component, at any index.
func inRange(_, n int) bool {
	return 0 <= n && n <= api.MaxInt
}

// checkPair returns why the components of a do not correspond to those of b.
func checkPair(a, b api.Clock) api.Errno {
	if Check(a) != api.OK || Check(b) != api.OK {
		return api.ErrArgument
	}
	if len(a) != len(b) {
		return api.ErrMismatch
	}
	return api.OK
}

// combine returns the clock that has for each two corresponding components the one that is chosen.
func combine(a, b api.Clock, choose func(m, n int) int) (api.Clock, api.Errno) {
	if e := checkPair(a, b); e != api.OK {
		return nil, e
	}
	c := make(api.Clock, len(a))
	for i := range c {
		c[i] = choose(a[i], b[i])
	}
	return c, api.OK
}
