package crew

import (
	"slices"
	"testing"

	"ravel/api"
)

// What follows does what the document's words say, one by one, and without the layers below. Each writes into a world that is its own.

// finds is the place of an id.
func finds(w *api.World, id int64) (int, api.Errno) {
	if id < 0 {
		return 0, api.ErrArg
	}
	at, gen := int(id%perGen), id/perGen
	if at >= len(w.T) || gen > w.Ids.Gen[at] {
		return 0, api.ErrNone
	}
	if gen < w.Ids.Gen[at] {
		return 0, api.ErrStale
	}
	if !w.Ids.Live[at] {
		return 0, api.ErrNone
	}
	return at, api.OK
}

// rouses wakes the last one that rests.
func rouses(w *api.World) {
	last := len(w.Idle.Stack) - 1
	who := w.Idle.Stack[last]
	w.Idle.Stack = w.Idle.Stack[:last]
	w.Idle.Is[who] = api.Awake
	has := w.W[who].Task
	w.W[who] = worker(api.FindW)
	w.W[who].Task = has
}

func wakesOne(w *api.World) {
	if !slices.Contains(w.Idle.Is, api.Spinning) && len(w.Idle.Stack) > 0 {
		rouses(w)
	}
}

func goesBehind(w *api.World, at int) {
	if w.Lists.Next[at] != out {
		return
	}
	own := w.T[at].Tenant
	if w.Lists.Head[own] != none {
		w.Lists.Next[w.Lists.Tail[own]] = at
	} else {
		w.Lists.Head[own] = at
		least := int64(-1)
		for i, x := range w.Ten {
			if i != own && w.Lists.Head[i] != none && (least < 0 || x.Tag < least) {
				least = x.Tag
			}
		}
		w.Ten[own].Tag = max(w.Ten[own].Tag, least)
	}
	w.Lists.Tail[own], w.Lists.Next[at] = at, none
}

func spawns(c api.Config, w *api.World, tenant, prog int) (int64, api.Errno) {
	at := 0
	for at < len(w.T) && (w.Ids.Live[at] || w.Ids.Gen[at] >= mostGen) {
		at++
	}
	switch {
	case w.Down:
		return 0, api.ErrDown
	case prog < 0 || prog >= len(c.Progs):
		return 0, api.ErrArg
	case tenant < 0 || tenant >= len(w.Ten):
		return 0, api.ErrNone
	case w.Ten[tenant].Live == w.Ten[tenant].Quota:
		return 0, api.ErrQuota
	case at == len(w.T) || len(w.Seen) == mostSeen:
		return 0, api.ErrFull
	}
	id := w.Ids.Gen[at]*perGen + int64(at)
	w.Ten[tenant].Live++
	w.Ids.Live[at] = true
	w.T[at] = task(id, tenant, prog, api.Ready)
	w.Seen = append(w.Seen, api.Event{Kind: api.BornE, Id: id, A: prog})
	return id, api.OK
}

func getsReady(w *api.World, id int64) api.Errno {
	at, e := finds(w, id)
	if e != api.OK {
		return e
	}
	if w.T[at].State < api.Sleeping || w.T[at].State > api.Taking {
		return api.ErrState
	}
	if len(w.Seen) == mostSeen {
		return api.ErrFull
	}
	w.T[at].State = api.Ready
	w.Seen = append(w.Seen, api.Event{Kind: api.FreedE, Id: id})
	goesBehind(w, at)
	wakesOne(w)
	return api.OK
}

func isPut(w *api.World, id int64) api.Errno {
	at, e := finds(w, id)
	if e != api.OK {
		return e
	}
	if w.T[at].State != api.Ready {
		return api.ErrState
	}
	goesBehind(w, at)
	wakesOne(w)
	return api.OK
}

func ticks(w *api.World, by int) api.Errno {
	if w.Now+int64(by) > mostTime {
		return api.ErrLarge
	}
	w.Now += int64(by)
	if slices.ContainsFunc(w.Heap, func(t api.Timer) bool { return t.At <= w.Now }) {
		wakesOne(w)
	}
	return api.OK
}

// edges lets a descriptor get ready, or be shut.
func edges(w *api.World, i int, shut bool) api.Errno {
	if i >= len(w.Fds) {
		return api.ErrArg
	}
	d := &w.Fds[i]
	if !d.Open {
		return api.ErrNone
	}
	who := d.Who
	*d = api.Fd{Open: !shut, Ready: !shut && who == nobody, Who: nobody}
	if who == nobody {
		return api.OK
	}
	return getsReady(w, who)
}

func opens(w *api.World, i int) api.Errno {
	if i >= len(w.Fds) {
		return api.ErrArg
	}
	if w.Fds[i].Open {
		return api.ErrThere
	}
	w.Fds[i] = api.Fd{Open: true, Who: nobody}
	return api.OK
}

func draws(w *api.World, a, b int) api.Errno {
	if len(w.Dice.L) >= mostOctets {
		return api.ErrLarge
	}
	w.Dice.L = append(w.Dice.L, byte(a), byte(b))
	return api.OK
}

func goesDown(w *api.World) {
	w.Down = true
	for len(w.Idle.Stack) > 0 {
		rouses(w)
	}
}

// does does what an entry says.
func does(c api.Config, w *api.World, x api.Entry) api.Errno {
	two := x.Kind == api.SpawnS || x.Kind == api.DrawS
	if x.Kind < 1 || x.Kind > 7 || x.A < 0 || x.A > 255 || x.B < 0 || x.B > 255 || x.B > 0 && !two || x.Kind == api.DownS && x.A > 0 {
		return api.ErrArg
	}
	if x.Kind == api.DrawS {
		return draws(w, x.A, x.B)
	}
	if w.Down {
		return api.ErrDown
	}
	switch x.Kind {
	case api.SpawnS:
		id, e := spawns(c, w, x.A, x.B)
		if e != api.OK {
			return e
		}
		return isPut(w, id)
	case api.TickS:
		return ticks(w, x.A)
	case api.FireS, api.ShutS:
		return edges(w, x.A, x.Kind == api.ShutS)
	case api.OpenS:
		return opens(w, x.A)
	}
	goesDown(w)
	return api.OK
}

// agrees holds what a call told against what the words say, that what is told may be, and that nothing is changed, or shared.
func agrees(t *testing.T, name any, c api.Config, w api.World, call func(w api.World) (api.World, api.Errno), says func(w *api.World) api.Errno) (api.World, api.Errno) {
	t.Helper()
	was, want := twin(w), twin(w)
	wantErr := says(&want)
	if wantErr != api.OK {
		want = api.World{}
	}
	told, e := call(w)
	if e != wantErr {
		t.Fatalf("%v: error %d, and not %d", name, e, wantErr)
	}
	if !equal(told, want) {
		t.Fatalf("%v: got\n%v, and not\n%v", name, told, want)
	}
	if !equal(w, was) || !apart(told, w, c) {
		t.Fatalf("%v: what was handed in is changed, or shared", name)
	}
	if e == api.OK && Check(c, told) != api.OK {
		t.Fatalf("%v: what is told may not be", name)
	}
	return told, e
}

// Each of these holds one call, and tells what it told.

func spawned(t *testing.T, c api.Config, w api.World, tenant, prog int) (int64, api.World, api.Errno) {
	t.Helper()
	var id, want int64
	told, e := agrees(t, []int{tenant, prog}, c, w, func(w api.World) (told api.World, e api.Errno) {
		id, told, e = Spawn(c, w, tenant, prog)
		return told, e
	}, func(w *api.World) (e api.Errno) {
		want, e = spawns(c, w, tenant, prog)
		return e
	})
	if id != want {
		t.Fatalf("%d, %d: id %d, and not %d", tenant, prog, id, want)
	}
	return id, told, e
}

func readied(t *testing.T, c api.Config, w api.World, id int64) (api.World, api.Errno) {
	t.Helper()
	return agrees(t, id, c, w, func(w api.World) (api.World, api.Errno) { return Ready(c, w, id) }, func(w *api.World) api.Errno { return getsReady(w, id) })
}

func put(t *testing.T, c api.Config, w api.World, id int64) (api.World, api.Errno) {
	t.Helper()
	return agrees(t, id, c, w, func(w api.World) (api.World, api.Errno) { return Put(c, w, id) }, func(w *api.World) api.Errno { return isPut(w, id) })
}

func waked(t *testing.T, c api.Config, w api.World) (api.World, api.Errno) {
	t.Helper()
	return agrees(t, "Wake", c, w, func(w api.World) (api.World, api.Errno) { return Wake(c, w) }, func(w *api.World) api.Errno {
		wakesOne(w)
		return api.OK
	})
}

func done(t *testing.T, c api.Config, w api.World, x api.Entry) (api.World, api.Errno) {
	t.Helper()
	return agrees(t, x, c, w, func(w api.World) (api.World, api.Errno) { return Do(c, w, x) }, func(w *api.World) api.Errno { return does(c, w, x) })
}
