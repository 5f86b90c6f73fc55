package crew

import (
	"math"
	"slices"
	"testing"

	"ravel/api"
)

// is holds an error against the one that is wanted.
func is(t *testing.T, name any, e, want api.Errno) {
	t.Helper()
	if e != want {
		t.Errorf("%v: error %d, and not %d", name, e, want)
	}
}

// P20.2

func TestSpawn(t *testing.T) {
	c := usual()
	id, w, e := spawned(t, c, middle(), 1, 2)
	if id != 3*perGen+4 || e != api.OK || w.T[4] != task(id, 1, 2, api.Ready) || !w.Ids.Live[4] || w.Ten[1].Live != 4 || w.Seen[2] != (api.Event{Kind: api.BornE, Id: id, A: 2}) {
		t.Errorf("id %d, error %d", id, e)
	}
	// It is put nowhere, and nobody is waked.
	if was := middle(); !equal(w.Lists, was.Lists) || !equal(w.Idle, was.Idle) || !equal(w.W, was.W) || w.Ten[1].Tag != was.Ten[1].Tag {
		t.Error("it is put somewhere, or somebody is waked")
	}
}

// TestSpawnAll fills all places, in order.
func TestSpawnAll(t *testing.T) {
	for _, c := range []api.Config{usual(), great()} {
		c.Cap = 1 // few cells are copied faster
		c.Quotas = slices.Repeat([]int{256}, len(c.Weights))
		w := begins(c)
		for i := range c.Tasks {
			id, told, e := spawned(t, c, w, i%len(c.Weights), i%len(c.Progs))
			if id != int64(i) || e != api.OK {
				t.Fatalf("%d: id %d, error %d", i, id, e)
			}
			w = told
		}
		_, _, e := spawned(t, c, w, 0, 0)
		is(t, "one more", e, api.ErrFull)
		// One that went makes room, for one of another generation.
		w.Ids.Gen[5], w.Ids.Live[5], w.T[5] = 1, false, api.Task{}
		if id, _, e := spawned(t, c, w, 0, 0); id != perGen+5 || e != api.OK {
			t.Errorf("id %d, error %d", id, e)
		}
		// A place of the greatest generation is given no more, one ahead of that is.
		w.Ids.Gen[5] = mostGen
		_, _, e = spawned(t, c, w, 0, 0)
		is(t, "the greatest generation", e, api.ErrFull)
		w.Ids.Gen[5] = mostGen - 1
		if id, _, e := spawned(t, c, w, 0, 0); id != (mostGen-1)*perGen+5 || e != api.OK {
			t.Errorf("id %d, error %d", id, e)
		}
	}
}

// TestSpawnOfEach lets each tenant spawn each program, and ones that there are not.
func TestSpawnOfEach(t *testing.T) {
	c := usual()
	numbers := append([]int{-2, -1, 0, 1, 2, 3, 4, 15, 16, 17, 256}, far...)
	for _, w := range []api.World{middle(), begins(c), with(middle(), func(w *api.World) { w.Ten[0].Live = 5 })} {
		for _, tenant := range numbers {
			for _, prog := range numbers {
				spawned(t, c, w, tenant, prog)
			}
		}
	}
	for quota := range 4 {
		c.Quotas = []int{0, quota, 0}
		w := begins(c)
		for i := range quota {
			_, told, e := spawned(t, c, w, 1, 0)
			is(t, i, e, api.OK)
			w = told
		}
		for tenant := range 3 {
			_, _, e := spawned(t, c, w, tenant, 0)
			is(t, tenant, e, api.ErrQuota)
		}
	}
}

// TestWhichErrorOfSpawn lets all that stands in the way of a spawn go, one by one: the first one is told.
func TestWhichErrorOfSpawn(t *testing.T) {
	c, w := usual(), middle()
	w.Ids.Live[4], w.T[4] = true, task(3*perGen+4, 0, 0, api.Ready)
	w.Seen = make([]api.Event, mostSeen)
	w.Ten[2].Live = 4
	w.Down = true
	for _, x := range []struct {
		tenant, prog int
		e            api.Errno
		change       func(w *api.World)
	}{
		{3, 4, api.ErrDown, func(w *api.World) {}},
		{3, 4, api.ErrArg, func(w *api.World) { w.Down = false }},
		{3, -1, api.ErrArg, func(w *api.World) {}},
		{2, 4, api.ErrArg, func(w *api.World) {}},
		{3, 3, api.ErrNone, func(w *api.World) {}},
		{-1, 3, api.ErrNone, func(w *api.World) {}},
		{2, 3, api.ErrQuota, func(w *api.World) {}},
		{2, 3, api.ErrFull, func(w *api.World) { w.Ten[2].Live = 3 }},
		{2, 3, api.ErrFull, func(w *api.World) { w.Ids.Live[4], w.T[4] = false, api.Task{} }},
		{2, 3, api.ErrQuota, func(w *api.World) { w.Ten[2].Live = 4 }},
		{2, 3, api.ErrQuota, func(w *api.World) { w.Seen = w.Seen[1:] }},
		{2, 3, api.OK, func(w *api.World) { w.Ten[2].Live = 3 }},
	} {
		x.change(&w)
		id, told, e := spawned(t, c, w, x.tenant, x.prog)
		if e != x.e || e != api.OK && id != 0 || e == api.OK && len(told.Seen) != mostSeen {
			t.Fatalf("%v: id %d, error %d, and not %d", x, id, e, x.e)
		}
	}
}

// P20.3

func TestReady(t *testing.T) {
	c := usual()
	for _, id := range []int64{259, 5} {
		for state := api.Sleeping; state <= api.Taking; state++ {
			w := middle()
			w.T[id%perGen].State = state
			told, e := readied(t, c, w, id)
			if e != api.OK || told.T[id%perGen].State != api.Ready || told.Seen[2] != (api.Event{Kind: api.FreedE, Id: id}) || told.W[3].Do != api.FindW {
				t.Errorf("%d in state %d: error %d", id, state, e)
			}
		}
	}
	told, _ := readied(t, c, middle(), 259)
	if !slices.Equal(told.Lists.Next, []int{3, -2, -2, -1, -2, -2, 0, -2, -1}) || told.Lists.Tail[0] != 3 {
		t.Errorf("the lists are %v", told.Lists)
	}
	// Who waits for what it waited for is not its matter.
	if was := middle(); !equal(told.Heap, was.Heap) || !equal(told.Fds, was.Fds) || !equal(told.Joins, was.Joins) || !equal(told.Sems, was.Sems) {
		t.Error("timers, descriptors, joins or semaphores are others")
	}
}

// all are the ids at each edge of each place's, and such as there are none of.
func all() []int64 {
	l := []int64{-1, -2, math.MinInt64, 9, 10, 255, 9 + 5*perGen, math.MaxInt64, math.MaxInt64 - 255}
	for at, gen := range middle().Ids.Gen {
		for _, g := range []int64{gen - 2, gen - 1, gen, gen + 1, 1 << 50} {
			if id := g*perGen + int64(at); id >= 0 {
				l = append(l, id)
			}
		}
	}
	return l
}

// TestEachId asks for each id, in whatever state its task is.
func TestEachId(t *testing.T) {
	c := usual()
	for _, id := range all() {
		for _, w := range []api.World{middle(), begins(c), with(middle(), func(w *api.World) { w.Down = true }), with(middle(), func(w *api.World) { w.Seen = make([]api.Event, mostSeen) })} {
			readied(t, c, w, id)
			put(t, c, w, id)
		}
	}
	for id, want := range map[int64]api.Errno{-1: api.ErrArg, 9: api.ErrNone, 3*perGen + 4: api.ErrNone, 2*perGen + 4: api.ErrStale, 1: api.ErrStale, 257: api.ErrStale, 769: api.ErrNone, 5 + perGen: api.ErrNone, 513: api.ErrState, 7: api.ErrState} {
		_, e := readied(t, c, middle(), id)
		is(t, id, e, want)
		_, e = put(t, c, middle(), id)
		is(t, id, e, want)
	}
	// Ready asks for one that waits, and Put for one that is Ready.
	for _, id := range []int64{0, 2, 1798, 8} {
		_, e := readied(t, c, middle(), id)
		is(t, id, e, api.ErrState)
		_, e = put(t, c, middle(), id)
		is(t, id, e, api.OK)
	}
	for _, id := range []int64{259, 5} {
		_, e := put(t, c, middle(), id)
		is(t, id, e, api.ErrState)
	}
}

// TestFullOfEvents goes to the edge of how many are seen.
func TestFullOfEvents(t *testing.T) {
	c := usual()
	for n, want := range map[int]api.Errno{mostSeen - 2: api.OK, mostSeen - 1: api.OK, mostSeen: api.ErrFull} {
		w := with(middle(), func(w *api.World) { w.Seen = make([]api.Event, n) })
		_, _, e := spawned(t, c, w, 0, 0)
		is(t, n, e, want)
		_, e = readied(t, c, w, 5)
		is(t, n, e, want)
		_, e = readied(t, c, w, 0) // it does not wait, which is told first
		is(t, n, e, api.ErrState)
		_, e = readied(t, c, w, 261)
		is(t, n, e, api.ErrNone)
		_, e = put(t, c, w, 0) // nothing is seen of that
		is(t, n, e, api.OK)
		_, e = done(t, c, w, one(api.SpawnS, 0, 0))
		is(t, n, e, want)
		_, e = done(t, c, w, one(api.FireS, 1, 0))
		is(t, n, e, want)
		_, e = done(t, c, w, one(api.ShutS, 1, 0))
		is(t, n, e, want)
		for _, x := range []api.Entry{one(api.FireS, 2, 0), one(api.ShutS, 3, 0), one(api.TickS, 9, 0), one(api.OpenS, 0, 0), one(api.DrawS, 9, 9), one(api.DownS, 0, 0)} {
			_, e = done(t, c, w, x)
			is(t, x, e, api.OK)
		}
	}
}

// TestWhereOneIsPut holds the place in the list, and whether the tenant is waked.
func TestWhereOneIsPut(t *testing.T) {
	c := usual()
	// The kid is the first one of its tenant's list: its tag rises to the least of those that are busy.
	w, _ := put(t, c, middle(), 2)
	if w.Lists.Head[1] != 2 || w.Lists.Tail[1] != 2 || w.Ten[1].Tag != 500 {
		t.Errorf("lists %v, tag %d", w.Lists, w.Ten[1].Tag)
	}
	for _, x := range []struct {
		tags [3]int64
		want int64
	}{{[3]int64{900, 100, 500}, 500}, {[3]int64{500, 100, 900}, 500}, {[3]int64{900, 499, 500}, 500}, {[3]int64{900, 500, 500}, 500}, {[3]int64{900, 501, 500}, 501}, {[3]int64{900, 2000, 500}, 2000}, {[3]int64{0, 0, 0}, 0}, {[3]int64{mostTag, 0, mostTag}, mostTag}} {
		w := middle()
		for i, tag := range x.tags {
			w.Ten[i].Tag = tag
		}
		if told, _ := put(t, c, w, 2); told.Ten[1].Tag != x.want {
			t.Errorf("%v: %d", x, told.Ten[1].Tag)
		}
	}
	// Of a list that has some the tenant is not waked, though its tag is the least.
	w = with(middle(), func(w *api.World) { w.Ten[2].Tag = 1 })
	if told, _ := readied(t, c, w, 5); told.Ten[2].Tag != 1 || told.Lists.Next[8] != 5 || told.Lists.Tail[2] != 5 {
		t.Errorf("lists %v, tag %d", told.Lists, told.Ten[2].Tag)
	}
	// One that is in its list stays where it is, but one is waked.
	for _, id := range []int64{1798, 0, 8} {
		told, _ := put(t, c, middle(), id)
		if !equal(told.Lists, middle().Lists) || told.W[3].Do != api.FindW {
			t.Errorf("%d: lists %v", id, told.Lists)
		}
	}
	// Where no other list has some the tag stays.
	w = with(middle(), func(w *api.World) { w.Lists, w.Ten[0].Tag = begins(c).Lists, 7 })
	if told, _ := put(t, c, w, 0); told.Ten[0].Tag != 7 || told.Lists.Head[0] != 0 {
		t.Errorf("lists %v, tag %d", told.Lists, told.Ten[0].Tag)
	}
}

// TestWake wakes all that rest, the last one first, each at its beginning, with its task.
func TestWake(t *testing.T) {
	c, w := usual(), middle()
	w.W[2].Kid, w.W[2].Hand, w.W[2].At, w.W[2].Ask, w.W[2].Left, w.W[2].Spill = 8, api.Hand{Kind: api.StealH}, 5, []int{1}, 7, 3
	w, _ = waked(t, c, w)
	want := worker(api.FindW)
	want.Task = 7
	if !equal(w.W[3], want) || w.Idle.Is[3] != api.Awake || !slices.Equal(w.Idle.Stack, []int{2}) || w.W[2].Do != api.ParkedW {
		t.Errorf("%v, %v", w.W, w.Idle)
	}
	w, _ = waked(t, c, w)
	if !equal(w.W[2], worker(api.FindW)) || w.Idle.Is[2] != api.Awake || len(w.Idle.Stack) != 0 {
		t.Errorf("%v, %v", w.W, w.Idle)
	}
	// Nobody rests any more.
	if told, e := waked(t, c, w); !equal(told, w) || e != api.OK {
		t.Errorf("%v, %v", told.W, told.Idle)
	}
	// One that has a task, parked as well.
	for do, as := range map[int]int{api.LookW: api.Announced, api.ParkW: api.Announced, api.ParkedW: api.Parked} {
		w := middle()
		w.W[3].Do, w.Idle.Is[3] = do, as
		if told, _ := waked(t, c, w); !equal(told.W[3], want) {
			t.Errorf("%d: %v", do, told.W[3])
		}
	}
}

// TestWhileOneSpins holds that then nobody is waked, but when it is shut down.
func TestWhileOneSpins(t *testing.T) {
	c := usual()
	w := with(middle(), func(w *api.World) { w.W[4], w.Idle.Is[4] = worker(api.StealW), api.Spinning })
	for name, call := range map[string]func() (api.World, api.Errno){
		"Wake":  func() (api.World, api.Errno) { return waked(t, c, w) },
		"Ready": func() (api.World, api.Errno) { return readied(t, c, w, 259) },
		"Put":   func() (api.World, api.Errno) { return put(t, c, w, 2) },
		"Spawn": func() (api.World, api.Errno) { return done(t, c, w, one(api.SpawnS, 1, 0)) },
		"Tick":  func() (api.World, api.Errno) { return done(t, c, w, one(api.TickS, 9, 0)) },
		"Fire":  func() (api.World, api.Errno) { return done(t, c, w, one(api.FireS, 1, 0)) },
		"Shut":  func() (api.World, api.Errno) { return done(t, c, w, one(api.ShutS, 1, 0)) },
	} {
		if told, e := call(); e != api.OK || !equal(told.Idle, w.Idle) || !equal(told.W, w.W) {
			t.Errorf("%s: error %d, %v", name, e, told.Idle)
		}
	}
	told, _ := done(t, c, w, one(api.DownS, 0, 0))
	if !slices.Equal(told.Idle.Is, []int{0, 0, 0, 0, api.Spinning}) || len(told.Idle.Stack) != 0 || told.W[4].Do != api.StealW {
		t.Errorf("%v, %v", told.W, told.Idle)
	}
}
