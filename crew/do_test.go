package crew

import (
	"slices"
	"testing"

	"ravel/api"
)

// P20.4

// TestEachEntry goes through all entries at edges, of worlds in several states.
func TestEachEntry(t *testing.T) {
	c := usual()
	worlds := []api.World{
		middle(), begins(c),
		with(middle(), func(w *api.World) { w.Down = true }),
		with(middle(), func(w *api.World) { w.Now = mostTime - 3 }),
		with(middle(), func(w *api.World) { w.Ten[0].Live, w.Ten[1].Live, w.Ten[2].Live = 5, 6, 4 }),
		with(middle(), func(w *api.World) { w.Fds[1].Who = 259 }),
		with(middle(), func(w *api.World) { w.Fds[1].Who = 1 }),
	}
	numbers := []int{-1, 0, 1, 2, 3, 4, 5, 15, 16, 254, 255, 256}
	for i, w := range worlds {
		for kind := -2; kind <= 10; kind++ {
			for _, a := range numbers {
				for _, b := range numbers {
					done(t, c, w, one(kind, a, b))
				}
			}
			for _, n := range far {
				for _, x := range []api.Entry{one(n, 0, 0), one(kind, n, 0), one(kind, 0, n)} {
					_, e := done(t, c, w, x)
					is(t, []any{i, x}, e, api.ErrArg)
				}
			}
		}
	}
}

// TestStepsAreNone holds that a step is no matter of Do, down or not.
func TestStepsAreNone(t *testing.T) {
	for _, w := range []api.World{middle(), with(middle(), func(w *api.World) { w.Down = true })} {
		for a := range 256 {
			_, e := done(t, usual(), w, one(api.StepS, a, 0))
			is(t, a, e, api.ErrArg)
		}
	}
}

func TestTheExample(t *testing.T) {
	c := small()
	w := begins(c)
	w, e := done(t, c, w, one(api.SpawnS, 0, 0))
	is(t, "the first", e, api.OK)
	if w.Lists.Head[0] != 0 || w.Lists.Tail[0] != 0 || w.Ten[0].Live != 1 || len(w.Seen) != 1 {
		t.Errorf("got %v", w)
	}
	_, e = done(t, c, w, one(api.SpawnS, 0, 0))
	is(t, "the second", e, api.ErrQuota)
}

// TestSpawnS puts it behind, and wakes one, once.
func TestSpawnS(t *testing.T) {
	c := usual()
	w, _ := done(t, c, middle(), one(api.SpawnS, 1, 2))
	if w.T[4] != task(3*perGen+4, 1, 2, api.Ready) || w.Lists.Head[1] != 4 || w.Ten[1].Tag != 500 || !slices.Equal(w.Idle.Stack, []int{2}) || len(w.Seen) != 3 {
		t.Errorf("got %v", w)
	}
	w, _ = done(t, c, middle(), one(api.SpawnS, 2, 1))
	if !slices.Equal(w.Lists.Next, []int{-1, -2, -2, -2, -1, -2, 0, -2, 4}) || w.Ten[2].Tag != 500 {
		t.Errorf("got %v", w)
	}
	// What stands in the way of a spawn is told, in its order.
	full := with(middle(), func(w *api.World) {
		w.Ids.Live[4], w.T[4], w.Ten[2].Live = true, task(3*perGen+4, 0, 0, api.Ready), 4
	})
	for x, want := range map[api.Entry]api.Errno{one(api.SpawnS, 3, 4): api.ErrArg, one(api.SpawnS, 3, 3): api.ErrNone, one(api.SpawnS, 2, 3): api.ErrQuota, one(api.SpawnS, 1, 3): api.ErrFull} {
		_, e := done(t, c, full, x)
		is(t, x, e, want)
	}
}

// TestTickS goes to the edges of the time, and of a timer.
func TestTickS(t *testing.T) {
	c := usual()
	for by := range 256 {
		w, e := done(t, c, middle(), one(api.TickS, by, 0))
		is(t, by, e, api.OK)
		// The first timers are due at 43: one is waked, however many are due.
		want := []int{2, 3}
		if by >= 3 {
			want = []int{2}
		}
		if w.Now != int64(40+by) || !slices.Equal(w.Idle.Stack, want) || len(w.Heap) != 3 {
			t.Errorf("%d: at %d, %v", by, w.Now, w.Idle)
		}
		for left := range 256 {
			w := with(middle(), func(w *api.World) { w.Now = mostTime - int64(left) })
			want := api.OK
			if by > left {
				want = api.ErrLarge
			}
			if _, e := Do(c, w, one(api.TickS, by, 0)); e != want {
				t.Fatalf("%d, and %d left: error %d", by, left, e)
			}
		}
		done(t, c, with(middle(), func(w *api.World) { w.Heap = nil }), one(api.TickS, by, 0))
		done(t, c, with(middle(), func(w *api.World) { w.Now, w.Heap = mostTime-255, []api.Timer{{At: mostTime}} }), one(api.TickS, by, 0))
	}
}

// TestFds opens, fires and shuts descriptors, whoever waits.
func TestFds(t *testing.T) {
	c := usual()
	for _, x := range []struct {
		kind, fd int
		e        api.Errno
		then     api.Fd
	}{
		{api.OpenS, 0, api.OK, api.Fd{Open: true, Who: nobody}},
		{api.OpenS, 1, api.ErrThere, api.Fd{}},
		{api.OpenS, 2, api.ErrThere, api.Fd{}},
		{api.OpenS, 3, api.ErrThere, api.Fd{}},
		{api.OpenS, 4, api.ErrArg, api.Fd{}},
		{api.FireS, 0, api.ErrNone, api.Fd{}},
		{api.FireS, 1, api.OK, api.Fd{Open: true, Who: nobody}},
		{api.FireS, 2, api.OK, api.Fd{Open: true, Ready: true, Who: nobody}},
		{api.FireS, 3, api.OK, api.Fd{Open: true, Ready: true, Who: nobody}},
		{api.FireS, 4, api.ErrArg, api.Fd{}},
		{api.ShutS, 0, api.ErrNone, api.Fd{}},
		{api.ShutS, 1, api.OK, api.Fd{Who: nobody}},
		{api.ShutS, 2, api.OK, api.Fd{Who: nobody}},
		{api.ShutS, 3, api.OK, api.Fd{Who: nobody}},
		{api.ShutS, 255, api.ErrArg, api.Fd{}},
	} {
		w, e := done(t, c, middle(), one(x.kind, x.fd, 0))
		is(t, x, e, x.e)
		if e != api.OK {
			continue
		}
		freed := x.fd == 1
		if w.Fds[x.fd] != x.then || (w.T[5].State == api.Ready) != freed || (w.Lists.Tail[2] == 5) != freed || (len(w.Seen) == 3) != freed || (len(w.Idle.Stack) == 1) != freed {
			t.Errorf("%v: got %v", x, w)
		}
	}
}

// TestStrangeWaiters lets a descriptor be waited for by each id: who is not there, or does not wait, is told, and all stays.
func TestStrangeWaiters(t *testing.T) {
	c := usual()
	for _, id := range all() {
		if id < 0 {
			continue
		}
		w := with(middle(), func(w *api.World) { w.Fds[1].Who = id })
		for _, kind := range []int{api.FireS, api.ShutS} {
			_, e := done(t, c, w, one(kind, 1, 0))
			if _, want := Ready(c, w, id); e != want {
				t.Errorf("%d: error %d, and not %d", id, e, want)
			}
		}
	}
	for id, want := range map[int64]api.Errno{9: api.ErrNone, 1: api.ErrStale, 769: api.ErrNone, 513: api.ErrState, 8: api.ErrState, 259: api.OK} {
		_, e := done(t, c, with(middle(), func(w *api.World) { w.Fds[1].Who = id }), one(api.FireS, 1, 0))
		is(t, id, e, want)
	}
}

// TestDrawS goes to the edge of how many octets there are.
func TestDrawS(t *testing.T) {
	c := usual()
	for a := range 256 {
		w, e := done(t, c, middle(), one(api.DrawS, a, 255-a))
		if !slices.Equal(w.Dice.L, []byte{1, 2, 3, 4, 5, byte(a), byte(255 - a)}) || w.Dice.At != 3 || e != api.OK {
			t.Errorf("%d: %v, error %d", a, w.Dice, e)
		}
	}
	for n, want := range map[int]api.Errno{0: api.OK, 1: api.OK, mostOctets - 2: api.OK, mostOctets - 1: api.OK, mostOctets: api.ErrLarge, mostOctets + 1: api.ErrLarge, 2 * mostOctets: api.ErrLarge} {
		for _, at := range []int{0, n} {
			for _, down := range []bool{false, true} {
				w := with(middle(), func(w *api.World) { w.Dice, w.Down = api.Dice{L: make([]byte, n), At: at}, down })
				told, e := done(t, c, w, one(api.DrawS, 7, 8))
				is(t, n, e, want)
				if e == api.OK && (len(told.Dice.L) != n+2 || told.Dice.At != at) {
					t.Errorf("%d octets, at %d", len(told.Dice.L), told.Dice.At)
				}
			}
		}
	}
}

// TestDownS wakes all that rest, however many, and then refuses all but draws.
func TestDownS(t *testing.T) {
	c := usual()
	w, e := done(t, c, middle(), one(api.DownS, 0, 0))
	want := worker(api.FindW)
	want.Task = 7
	if e != api.OK || !w.Down || !equal(w.W[2], worker(api.FindW)) || !equal(w.W[3], want) || !slices.Equal(w.Idle.Is, make([]int, 5)) || len(w.Seen) != 2 {
		t.Errorf("error %d, %v, %v", e, w.W, w.Idle)
	}
	for kind := api.SpawnS; kind <= api.DownS; kind++ {
		for _, a := range []int{0, 1, 2, 3, 4, 255} {
			want := api.ErrDown
			if kind == api.DrawS {
				want = api.OK
			}
			if kind == api.DownS && a > 0 { // which is no entry at all
				want = api.ErrArg
			}
			_, e := done(t, c, w, one(kind, a, 0))
			is(t, []int{kind, a}, e, want)
		}
	}
	// What is no matter of an entry goes on.
	_, e = readied(t, c, w, 5)
	is(t, "Ready", e, api.OK)
	_, e = put(t, c, w, 2)
	is(t, "Put", e, api.OK)
	_, e = waked(t, c, with(middle(), func(w *api.World) { w.Down = true }))
	is(t, "Wake", e, api.OK)
	_, _, e = spawned(t, c, w, 3, 4)
	is(t, "Spawn", e, api.ErrDown)
	// As many as may rest.
	c = great()
	c.Cap = 1
	big := begins(c)
	for i := range 64 {
		big.W[i].Do, big.Idle.Is[i] = api.ParkedW, api.Parked
		big.Idle.Stack = append(big.Idle.Stack, (i*5+3)%64)
	}
	told, e := done(t, c, big, one(api.DownS, 0, 0))
	if e != api.OK || !equal(told, with(begins(c), func(w *api.World) { w.Down = true })) {
		t.Errorf("error %d, %v", e, told.Idle)
	}
}
