package idle

import (
	"slices"

	"ravel/api"
)

// tally is how many are what, each at its own number.
type tally [api.Parked + 1]int

// tallyOf is the tally of workers, if they may be.
func tallyOf(d api.Idle) (tally, api.Errno) {
	if len(d.Is) < 1 || len(d.Is) > api.MaxWorkers || slices.ContainsFunc(d.Is, nothing) {
		return tally{}, api.ErrArg
	}
	var c tally
	for _, what := range d.Is {
		c[what]++
	}
	if !c.mayBe() || !c.stacked(d) {
		return tally{}, api.ErrArg
	}
	return c, api.OK
}

// mayBe tells whether no more are Spinning than may be beside those that are Parked.
func (c tally) mayBe() bool {
	up := c[api.Awake] + c[api.Spinning] + c[api.Announced]
	return 2*c[api.Spinning] <= up+1
}

// stacked tells whether Stack is of those that rest. As many as rest, all of whom rest, and nobody twice, can be no others.
func (c tally) stacked(d api.Idle) bool {
	if len(d.Stack) != c[api.Announced]+c[api.Parked] {
		return false
	}
	var met [api.MaxWorkers]bool
	return !slices.ContainsFunc(d.Stack, func(who int) bool {
		if !isOne(d, who) || !rests(d.Is[who]) || met[who] {
			return true
		}
		met[who] = true
		return false
	})
}

// moved is the tally where one of them is something else.
func (c tally) moved(from, to int) tally {
	c[from]--
	c[to]++
	return c
}

// nothing tells whether a number is nothing that a worker may be.
func nothing(what int) bool { return what < api.Awake || what > api.Parked }

// rests tells whether one that is that is in Stack.
func rests(what int) bool { return what == api.Announced || what == api.Parked }

func isOne(d api.Idle, i int) bool { return i >= 0 && i < len(d.Is) }
