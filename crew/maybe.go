package crew

import (
	"slices"

	"ravel/api"
	"ravel/chain"
	"ravel/dice"
	"ravel/heap"
	"ravel/idle"
	"ravel/joins"
	"ravel/life"
	"ravel/lodge"
	"ravel/poll"
	"ravel/ring"
	"ravel/sema"
	"ravel/slot"
	"ravel/step"
)

func within[N int | int64](n, least, most N) bool { return n >= least && n <= most }

// amount is how many of something there are, and how many there are to be.
type amount struct{ has, wants int }

// sized tells whether a world has as much of everything as its config says. It is asked ahead of what is there, so that no place is looked at that there is none of.
func sized(c api.Config, w api.World) bool {
	for _, x := range [...]amount{
		{len(w.Ids.Gen), c.Tasks},
		{len(w.T), c.Tasks},
		{len(w.Mem), cellsOf(c)},
		{len(w.Lists.Next), c.Tasks},
		{len(w.Lists.Head), len(c.Weights)},
		{len(w.Ten), len(c.Weights)},
		{len(w.Fds), c.Fds},
		{len(w.Sems), len(c.Sems)},
		{len(w.Idle.Is), c.Workers},
		{len(w.W), c.Workers},
	} {
		if x.has != x.wants {
			return false
		}
	}
	return within(w.Now, 0, api.MaxTime) && len(w.Seen) <= api.MaxEvents
}

// sound tells whether the parts of a world may be, each by itself.
func sound(w api.World) bool {
	errs := [...]api.Errno{
		dice.Check(w.Dice), slot.Check(w.Ids), chain.Check(w.Lists), lodge.Check(w.Ten),
		heap.Check(w.Heap), poll.Check(w.Fds), joins.Check(w.Joins), idle.Check(w.Idle),
	}
	broken := func(s api.Sem) bool { return sema.Check(s) != api.OK }
	return errs == [8]api.Errno{} && !slices.ContainsFunc(w.Sems, broken)
}

// manned tells whether the tasks of a world may be, each at the place of its id.
func manned(c api.Config, w api.World) bool {
	var own []int64
	for place, live := range w.Ids.Live {
		switch t := w.T[place]; {
		case live && lives(c, t):
			own = append(own, t.Id)
		case live || t != (api.Task{}):
			return false
		}
	}
	ids, e := slot.Ids(w.Ids)
	return e == api.OK && slices.Equal(own, ids)
}

func lives(c api.Config, t api.Task) bool {
	if life.Check(t) != api.OK || t.State == api.Over || t.Tenant >= len(c.Weights) || t.Prog >= len(c.Progs) {
		return false
	}
	_, e := step.Next(t, c.Progs[t.Prog])
	return e == api.OK
}

// listed tells whether those in a tenant's list are Ready, and the tenant's. As a place that is not Live is of zeros, nobody is Ready there.
func listed(w api.World) bool {
	for tenant := range w.Lists.Head {
		places, e := chain.Walk(w.Lists, tenant)
		stray := func(place int) bool { return w.T[place].State != api.Ready || w.T[place].Tenant != tenant }
		if e != api.OK || slices.ContainsFunc(places, stray) {
			return false
		}
	}
	return true
}

// staffed tells whether the workers of a world may be: by themselves, by what Idle says of each, and by the tasks that they have.
func staffed(c api.Config, w api.World) bool {
	met := map[int64]struct{}{}
	has := func(id int64, state int) bool {
		if id == api.Nobody {
			return true
		}
		place, e := slot.Find(w.Ids, id)
		_, twice := met[id]
		met[id] = struct{}{}
		return e == api.OK && !twice && w.T[place].State == state
	}
	for i, x := range w.W {
		if !works(c, x) || w.Idle.Is[i] != isOf(x.Do) || !has(x.Task, api.Running) || !has(x.Kid, api.Ready) {
			return false
		}
	}
	return true
}

func works(c api.Config, x api.Worker) bool {
	stranger := func(who int) bool { return !within(who, 0, c.Workers-1) }
	return within(x.Do, api.FindW, api.StopW) && holds(x.Hand) && within(x.At, 0, c.Workers) &&
		len(x.Ask) <= api.MaxWorkers && !slices.ContainsFunc(x.Ask, stranger) &&
		within(x.Left, 0, c.Budget) && within(x.Spill, 0, c.Cap)
}

// isOf is what Idle says of a worker by what it does.
func isOf(do int) int {
	switch do {
	case api.ParkedW:
		return api.Parked
	case api.LookW, api.ParkW:
		return api.Announced
	case api.StealW:
		return api.Spinning
	}
	return api.Awake
}

// holds tells whether a worker may have a hand. Whether a hand may be does not hang on the deque: at one that may be, of a single slot, its next access is refused by ErrArg just if it may not.
func holds(h api.Hand) bool {
	if h == (api.Hand{}) {
		return true
	}
	_, _, e := ring.Step(make(api.Mem, ends+1), api.Deque{Cap: 1}, h)
	return h.State == api.Going && e != api.ErrArg
}
