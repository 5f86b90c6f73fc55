package life

import (
	"slices"
	"testing"

	"ravel/api"
)

// P12.4

// TestExample is the document's example.
func TestExample(t *testing.T) {
	if at, e := Trace(ready, running, sleeping, ready, running, over); at != 6 || e != api.OK {
		t.Errorf("%d, error %d", at, e)
	}
	if at, e := Trace(ready, running, sleeping, running); at != 3 || e != api.OK {
		t.Errorf("running behind sleeping: %d, error %d", at, e)
	}
	if Legal(sleeping, running) {
		t.Error("running may follow sleeping")
	}
	x, e := Move(task(sleeping), running)
	zero(t, "running behind sleeping", x, e, api.ErrState)
}

// TestNothingFollowsOver holds by each call that nothing follows Over, and that nobody is kept then.
func TestNothingFollowsOver(t *testing.T) {
	for _, to := range all() {
		if Legal(over, to) {
			t.Errorf("%d may follow", to)
		}
		x, e := Move(task(over), to)
		zero(t, "move", x, e, api.ErrState)
		for _, ahead := range [][]int{{ready, over}, {ready, running, over}, {ready, running, taking, over}, {ready, running, polling, ready, over}} {
			if at, e := Trace(append(slices.Clone(ahead), to)...); at != len(ahead) || e != api.OK {
				t.Errorf("%d behind %v: %d, error %d", to, ahead, at, e)
			}
		}
	}
	for _, from := range all() { // whatever it was, it may be over, once
		x, e := Move(task(from), over)
		if from == over {
			zero(t, "over again", x, e, api.ErrState)
			continue
		}
		holds(t, "over", x, task(over), e)
		for slot := range 4 {
			x, e := Keep(x, slot, 5)
			zero(t, "keep", x, e, api.ErrState)
		}
	}
}

// TestWhoWaitsIsReadyAheadOfRunning goes all ways of a few moves: between a state that waits and Running there is Ready, and what is Over is so for good.
func TestWhoWaitsIsReadyAheadOfRunning(t *testing.T) {
	ways := 0
	var further func(x api.Task, way []int)
	further = func(x api.Task, way []int) {
		ways++
		waited := false
		for i, state := range way {
			waited = waits(state) || waited && state != ready
			if waited && state == running || state == over && i < len(way)-1 {
				t.Fatalf("a task goes %v", way)
			}
		}
		if at, e := Trace(way...); at != len(way) || e != api.OK {
			t.Fatalf("a task goes %v, a trace to %d, error %d", way, at, e)
		}
		if len(way) == 10 {
			return
		}
		for _, to := range all() {
			if next, e := Move(x, to); e == api.OK {
				further(next, append(slices.Clone(way), to))
			}
		}
	}
	further(task(ready), []int{ready})
	if ways != waysOf(10) {
		t.Errorf("there are %d ways, and not %d", ways, waysOf(10))
	}
}

// waysOf counts the ways of so many states at the most, which begin with Ready: of each length how many end Ready, Running, and in a state that waits; those that end Over come behind each of these.
func waysOf(most int) int {
	sum, r, run, wait, end := 0, 1, 0, 0, 0
	for range most {
		sum += r + run + wait + end
		r, run, wait, end = run+wait, r, 4*run, r+run+wait
	}
	return sum
}

// TestAllTraces holds a trace of each few states against moves of a task, one by one.
func TestAllTraces(t *testing.T) {
	var longer func(states []int)
	longer = func(states []int) {
		if len(states) > 0 {
			at, e := Trace(states...)
			if want := moved(states); at != want || e != api.OK {
				t.Fatalf("%v: %d, error %d, and not %d", states, at, e, want)
			}
		}
		if len(states) == 6 {
			return
		}
		for _, state := range all() {
			longer(append(slices.Clone(states), state))
		}
	}
	longer(nil)
}

// moved tells how far a new task goes through states: it is Ready already.
func moved(states []int) int {
	x, _ := New(0, 0, 0)
	if states[0] != x.State {
		return 0
	}
	for i, to := range states[1:] {
		next, e := Move(x, to)
		if e != api.OK {
			return i + 1
		}
		x = next
	}
	return len(states)
}

// TestLongRun moves tasks very often, and lets them keep others, and holds them against plain ones.
func TestLongRun(t *testing.T) {
	for _, seed := range []uint64{1, 5, 300} {
		draw := seed
		next := func(below int) int {
			draw = draw*6364136223846793005 + 1442695040888963407
			return int(draw>>33) % below
		}
		x, e := New(int64(seed), 15, 4)
		want := api.Task{Id: int64(seed), Tenant: 15, Prog: 4, Keeps: [4]int64{-1, -1, -1, -1}, State: ready}
		way := []int{ready}
		for step := range 20000 {
			var got api.Task
			wrong := api.OK
			if next(3) == 0 {
				slot, id := next(6)-1, int64(next(9)-2)
				got, e = Keep(x, slot, id)
				if slot < 0 || slot > 3 || id < -1 {
					wrong = api.ErrArg
				} else {
					want.Keeps[slot] = id
				}
			} else {
				to := next(over) // once in a while no state, but never Over, so that it goes on
				got, e = Move(x, to)
				if to == 0 {
					wrong = api.ErrArg
				} else if !may(x.State, to) {
					wrong = api.ErrState
				} else {
					want.State = to
					way = append(way, to)
				}
			}
			if e != wrong || e == api.OK && got != want || e != api.OK && got != (api.Task{}) {
				t.Fatalf("step %d: %v, error %d, and not %v, error %d", step, got, e, want, wrong)
			}
			if e == api.OK {
				x = got
			}
		}
		if at, e := Trace(way...); at != len(way) || e != api.OK || len(way) < 1000 {
			t.Errorf("a way of %d: %d, error %d", len(way), at, e)
		}
		if at, e := Trace(append(way, over)...); at != len(way)+1 || e != api.OK {
			t.Errorf("over behind a way of %d: %d, error %d", len(way), at, e)
		}
	}
}
