package joins

import (
	"iter"

	"ravel/api"
)

// waits is for whom each one waits that waits for somebody.
type waits[Id comparable] map[Id]Id

func (w waits[Id]) has(who Id) bool {
	_, is := w[who]
	return is
}

// add lets who wait for on, and tells whether it did not wait yet.
func (w waits[Id]) add(on, who Id) bool {
	if w.has(who) {
		return false
	}
	w[who] = on
	return true
}

// way goes from one over those for whom it waits: its own, that one's, and so on. Where it goes round it has no end, and who ranges over it has to break off.
func (w waits[Id]) way(who Id) iter.Seq[Id] {
	return func(yield func(Id) bool) {
		on, is := w[who]
		for is && yield(on) {
			on, is = w[on]
		}
	}
}

// leads tells whether one is another one, or waits for it, on whatever way; no way may go round.
func (w waits[Id]) leads(from, to Id) bool {
	for on := range w.way(from) {
		if on == to {
			return true
		}
	}
	return from == to
}

// round tells whether some way goes round. A way is gone only till where one went before, so that the steps of all of them grow as the joins do, and not as their square.
func (w waits[Id]) round() bool {
	passedBy := make(map[Id]Id, len(w))
	comesBack := func(who Id) bool {
		for on := range w.way(who) {
			if by, passed := passedBy[on]; passed {
				return by == who
			}
			passedBy[on] = who
		}
		return false
	}
	for who := range w {
		if comesBack(who) {
			return true
		}
	}
	return false
}

// waitsOf is for whom each one waits of joins that may be.
func waitsOf(l []api.Join) (waits[int64], api.Errno) {
	if len(l) > api.MaxJoins {
		return nil, api.ErrArg
	}
	w := make(waits[int64], len(l))
	for _, j := range l {
		if j.On < 0 || j.Who < 0 || !w.add(j.On, j.Who) {
			return nil, api.ErrArg
		}
	}
	if w.round() {
		return nil, api.ErrArg
	}
	return w, api.OK
}
