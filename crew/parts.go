package crew

import (
	"bytes"
	"slices"

	"ravel/api"
	"ravel/cell"
	"ravel/chain"
	"ravel/idle"
	"ravel/lodge"
	"ravel/poll"
	"ravel/sema"
	"ravel/slot"
)

// ends are the cells of a deque beside its slots: its top, and its bottom.
const ends = 2

// cellsOf is how many cells the deques of all workers have.
func cellsOf(c api.Config) int { return c.Workers * (c.Cap + ends) }

// begun is the world that begins, of a config that may be: then no part of it is refused.
func begun(c api.Config) (api.World, api.Errno) {
	ids, e1 := slot.New(c.Tasks)
	mem, e2 := cell.New(cellsOf(c))
	lists, e3 := chain.New(c.Tasks, len(c.Weights))
	ten, e4 := lodge.New(c.Weights, c.Quotas)
	fds, e5 := poll.New(c.Fds)
	is, e6 := idle.New(c.Workers)
	if [...]api.Errno{e1, e2, e3, e4, e5, e6} != [6]api.Errno{} {
		return api.World{}, api.ErrArg
	}
	w := api.World{Ids: ids, T: make([]api.Task, c.Tasks), Mem: mem, Lists: lists, Ten: ten, Fds: fds, Idle: is}
	for _, free := range c.Sems {
		s, e := sema.New(free)
		if e != api.OK {
			return api.World{}, e
		}
		w.Sems = append(w.Sems, s)
	}
	w.W = slices.Repeat([]api.Worker{beginner(api.Nobody)}, c.Workers)
	return w, api.OK
}

// beginner is a worker at its beginning, but that it has a task, if it has one.
func beginner(task int64) api.Worker {
	return api.Worker{Do: api.FindW, Task: task, Kid: api.Nobody}
}

// alike tells whether two workers are the same.
func alike(a, b api.Worker) bool {
	return a.Do == b.Do && a.Hand == b.Hand && a.At == b.At && slices.Equal(a.Ask, b.Ask) &&
		a.Task == b.Task && a.Left == b.Left && a.Kid == b.Kid && a.Spill == b.Spill
}

// copied is a world that shares nothing with another one.
func copied(w api.World) api.World {
	w.Dice.L = bytes.Clone(w.Dice.L)
	w.Ids = api.Places{Gen: slices.Clone(w.Ids.Gen), Live: slices.Clone(w.Ids.Live)}
	w.T, w.Mem = slices.Clone(w.T), slices.Clone(w.Mem)
	w.Lists = api.Chains{Next: slices.Clone(w.Lists.Next), Head: slices.Clone(w.Lists.Head), Tail: slices.Clone(w.Lists.Tail)}
	w.Ten, w.Heap, w.Fds, w.Joins = slices.Clone(w.Ten), slices.Clone(w.Heap), slices.Clone(w.Fds), slices.Clone(w.Joins)
	w.Sems = slices.Clone(w.Sems)
	for i, s := range w.Sems {
		w.Sems[i].Wait = slices.Clone(s.Wait)
	}
	w.Idle = api.Idle{Is: slices.Clone(w.Idle.Is), Stack: slices.Clone(w.Idle.Stack)}
	w.W = slices.Clone(w.W)
	for i, x := range w.W {
		w.W[i].Ask = slices.Clone(x.Ask)
	}
	w.Seen = slices.Clone(w.Seen)
	return w
}
