package trace

import (
	"ravel/api"
	"ravel/life"
	"ravel/step"
)

// tasks are those that were born, by their ids.
type tasks map[int64]*task

// task is one as it is behind its events, and the last one of them.
type task struct {
	api.Task
	last api.Event
}

// come lets an event come, and tells whether it may. Behind one that may not, nothing is to be asked any more.
func (m tasks) come(progs [][]api.Instr, x api.Event) bool {
	if x.Kind == api.BornE {
		return m.bear(len(progs), x)
	}
	t, there := m[x.Id]
	if !there || !t.follow(progs[t.Prog], x) {
		return false
	}
	t.last = x
	return true
}

func (m tasks) bear(progs int, x api.Event) bool {
	t, e := life.New(x.Id, 0, x.A)
	if _, there := m[x.Id]; there || e != api.OK || x.A >= progs {
		return false
	}
	m[x.Id] = &task{Task: t, last: x}
	return true
}

func (t *task) follow(p []api.Instr, x api.Event) bool {
	switch x.Kind {
	case api.DidE:
		return t.do(p, x.A)
	case api.HeldE:
		return t.hold(x.A)
	case api.FreedE:
		return x.A == 0 && life.Waits(t.State) && t.move(api.Ready)
	case api.OverE:
		return x.A == 0 && t.exited() && t.move(api.Over)
	case api.LeftE:
		return x.A == 0 && t.move(api.Over)
	}
	return false
}

func (t *task) do(p []api.Instr, op int) bool {
	x, e := step.Next(t.Task, p)
	if e != api.OK || x.Op != op || t.exited() || !t.move(api.Running) {
		return false
	}
	done, _, e := step.Do(t.Task, p)
	t.Task = done
	return e == api.OK && t.move(api.Ready)
}

// hold asks nothing of the state: whose last event is a unit is Ready.
func (t *task) hold(state int) bool {
	if t.last.Kind != api.DidE || state == 0 || state != Held(t.last.A) {
		return false
	}
	return t.move(api.Running) && t.move(state)
}

// exited tells whether the last event is a unit of an exit. But for that one, a task that has done one is Over.
func (t *task) exited() bool { return t.last.Kind == api.DidE && t.last.A == api.ExitI }

func (t *task) move(to int) bool {
	next, e := life.Move(t.Task, to)
	if e != api.OK {
		return false
	}
	t.Task = next
	return true
}
