package crew

import (
	"ravel/api"
	"ravel/chain"
	"ravel/entry"
	"ravel/fair"
	"ravel/heap"
	"ravel/idle"
	"ravel/life"
	"ravel/lodge"
	"ravel/poll"
	"ravel/slot"
)

// runtime is a world that may be, and is this package's own to write into, and how many programs there are.
type runtime struct {
	api.World
	progs int
}

func (r *runtime) see(kind int, id int64, a int) {
	r.Seen = append(r.Seen, api.Event{Kind: kind, Id: id, A: a})
}

func (r *runtime) sawAll() bool { return len(r.Seen) == api.MaxEvents }

func (r *runtime) spawn(tenant, prog int) (int64, api.Errno) {
	if r.Down {
		return 0, api.ErrDown
	}
	if !within(prog, 0, r.progs-1) {
		return 0, api.ErrArg
	}
	ten, e := lodge.Admit(r.Ten, tenant)
	if e != api.OK {
		return 0, e
	}
	id, ids, e := slot.Take(r.Ids)
	if e != api.OK {
		return 0, e
	}
	if r.sawAll() {
		return 0, api.ErrFull
	}
	t, e := life.New(id, tenant, prog)
	if e != api.OK {
		return 0, e
	}
	r.Ten, r.Ids = ten, ids
	r.T[id%api.MaxTasks] = t
	r.see(api.BornE, id, prog)
	return id, api.OK
}

func (r *runtime) ready(id int64) api.Errno {
	place, e := slot.Find(r.Ids, id)
	if e != api.OK {
		return e
	}
	if !life.Waits(r.T[place].State) {
		return api.ErrState
	}
	if r.sawAll() {
		return api.ErrFull
	}
	t, e := life.Move(r.T[place], api.Ready)
	if e != api.OK {
		return e
	}
	r.T[place] = t
	r.see(api.FreedE, id, 0)
	r.behind(place)
	r.wake()
	return api.OK
}

func (r *runtime) put(id int64) api.Errno {
	place, e := slot.Find(r.Ids, id)
	if e != api.OK {
		return e
	}
	if r.T[place].State != api.Ready {
		return api.ErrState
	}
	r.behind(place)
	r.wake()
	return api.OK
}

// behind puts the task of a place behind; one that is in a list stays where it is.
func (r *runtime) behind(place int) {
	tenant := r.T[place].Tenant
	lists, e := chain.Push(r.Lists, tenant, place)
	if e != api.OK {
		return
	}
	if busy := r.busy(); !busy[tenant] {
		if ten, e := fair.Wake(r.Ten, tenant, busy); e == api.OK {
			r.Ten = ten
		}
	}
	r.Lists = lists
}

// busy tells of each tenant whether its list has some.
func (r *runtime) busy() []bool {
	busy := make([]bool, len(r.Lists.Head))
	for tenant, first := range r.Lists.Head {
		busy[tenant] = first != api.Last
	}
	return busy
}

// wake wakes one, unless somebody spins: that one finds what there is.
func (r *runtime) wake() {
	if spinning, e := idle.Count(r.Idle, api.Spinning); e == api.OK && spinning == 0 {
		r.rouse()
	}
}

// rouse wakes one, whoever spins, and tells whether there was one to wake.
func (r *runtime) rouse() bool {
	who, is, e := idle.Wake(r.Idle)
	if e != api.OK {
		return false
	}
	r.Idle = is
	r.W[who] = beginner(r.W[who].Task)
	return true
}

// deeds is what each kind of entry does; a step is none of them.
func (r *runtime) deeds() map[int]func(x api.Entry) api.Errno {
	return map[int]func(x api.Entry) api.Errno{
		api.SpawnS: r.born,
		api.TickS:  r.tick,
		api.FireS:  r.fire,
		api.DrawS:  r.draw,
		api.OpenS:  r.open,
		api.ShutS:  r.shut,
		api.DownS:  r.down,
	}
}

func (r *runtime) do(x api.Entry) api.Errno {
	if e := entry.Check([]api.Entry{x}); e != api.OK {
		return e
	}
	deed, is := r.deeds()[x.Kind]
	switch {
	case !is:
		return api.ErrArg
	case r.Down && x.Kind != api.DrawS:
		return api.ErrDown
	}
	return deed(x)
}

func (r *runtime) born(x api.Entry) api.Errno {
	id, e := r.spawn(x.A, x.B)
	if e != api.OK {
		return e
	}
	return r.put(id)
}

func (r *runtime) tick(x api.Entry) api.Errno {
	// The time is held against what is left of it.
	if int64(x.A) > api.MaxTime-r.Now {
		return api.ErrLarge
	}
	r.Now += int64(x.A)
	if first, e := heap.Least(r.Heap); e == api.OK && first.At <= r.Now {
		r.wake()
	}
	return api.OK
}

func (r *runtime) fire(x api.Entry) api.Errno { return r.freed(poll.Fire(r.Fds, x.A)) }

func (r *runtime) shut(x api.Entry) api.Errno { return r.freed(poll.Shut(r.Fds, x.A)) }

// freed takes what the descriptors are then, and lets who waited go on.
func (r *runtime) freed(who int64, fds []api.Fd, e api.Errno) api.Errno {
	if e != api.OK {
		return e
	}
	r.Fds = fds
	if who == api.Nobody {
		return api.OK
	}
	return r.ready(who)
}

func (r *runtime) open(x api.Entry) api.Errno {
	fds, e := poll.Open(r.Fds, x.A)
	if e != api.OK {
		return e
	}
	r.Fds = fds
	return api.OK
}

func (r *runtime) draw(x api.Entry) api.Errno {
	if len(r.Dice.L) >= api.MaxCells {
		return api.ErrLarge
	}
	r.Dice.L = append(r.Dice.L, byte(x.A), byte(x.B))
	return api.OK
}

// down wakes all, whoever spins: each has to come by itself to its stop.
func (r *runtime) down(api.Entry) api.Errno {
	r.Down = true
	for r.rouse() {
	}
	return api.OK
}
