package entry

import (
	"slices"

	"ravel/api"
	"ravel/code"
	"ravel/lodge"
	"ravel/sema"
)

// ends are the cells of a deque beside its slots: its top, and its bottom.
const ends = 2

func within(n, least, most int) bool { return n >= least && n <= most }

// sized tells whether the numbers of a config may be.
func sized(c api.Config) bool {
	return within(c.Workers, 1, api.MaxWorkers) && within(c.Cap, 1, api.MaxCap) && c.Workers*(c.Cap+ends) <= api.MaxCells &&
		within(c.Budget, 1, api.MaxWork) && within(c.Tasks, 1, api.MaxTasks) && within(c.Fds, 0, api.MaxFds)
}

// filled tells whether the tenants, the programs and the semaphores of a config may be, each by themselves.
func filled(c api.Config) bool {
	if _, e := lodge.New(c.Weights, c.Quotas); e != api.OK {
		return false
	}
	broken := func(free int) bool {
		_, e := sema.New(free)
		return e != api.OK
	}
	return code.CheckAll(c.Progs) == api.OK && len(c.Sems) <= api.MaxSems && !slices.ContainsFunc(c.Sems, broken)
}

// supplied tells whether there is what the programs of a config ask for, behind an exit as well.
func supplied(c api.Config) bool {
	lacks := func(x api.Instr) bool {
		switch x.Op {
		case api.IoI:
			return x.A >= c.Fds
		case api.TakeI, api.GiveI:
			return x.A >= len(c.Sems)
		}
		return false
	}
	return !slices.ContainsFunc(c.Progs, func(p []api.Instr) bool { return slices.ContainsFunc(p, lacks) })
}
