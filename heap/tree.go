package heap

import (
	"cmp"

	"ravel/api"
)

// below is how many places are below each one.
const below = 4

// above is the place above another one, which is not the first one.
func above(i int) int { return (i - 1) / below }

func order(a, b api.Timer) int {
	return cmp.Or(cmp.Compare(a.At, b.At), cmp.Compare(a.Id, b.Id))
}

func ahead(a, b api.Timer) bool { return order(a, b) < 0 }

// rise lets the timer of place i go up as far as it comes ahead.
func rise(h []api.Timer, i int) {
	for i > 0 && ahead(h[i], h[above(i)]) {
		h[i], h[above(i)] = h[above(i)], h[i]
		i = above(i)
	}
}

// sink lets the timer of place i go down as far as others come ahead of it.
func sink(h []api.Timer, i int) {
	for first := firstOf(h, i); first != i; first = firstOf(h, i) {
		h[i], h[first] = h[first], h[i]
		i = first
	}
}

// firstOf is the place of the first timer of those of place i, and below it.
func firstOf(h []api.Timer, i int) int {
	first := i
	for at := below*i + 1; at <= below*(i+1) && at < len(h); at++ {
		if ahead(h[at], h[first]) {
			first = at
		}
	}
	return first
}

// settle lets the timer of place i, which alone may stand wrong, go where it may. It goes one way at the most: behind a rise, all below place i come behind what stands there then.
func settle(h []api.Timer, i int) {
	rise(h, i)
	sink(h, i)
}

// without takes the timer of place i out of a heap that is this package's own: it writes into it. The last one comes in its stead, and may have to go up as well, as it may have stood below others.
func without(h []api.Timer, i int) []api.Timer {
	last := len(h) - 1
	h[i] = h[last]
	h = h[:last]
	if i < last {
		settle(h, i)
	}
	return h
}
