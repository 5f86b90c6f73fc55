package life

import (
	"math"
	"slices"
	"testing"

	"ravel/api"
)

// The numbers of states by the document's words, which stand here as numbers of their own.
const (
	ready    = 1
	running  = 2
	sleeping = 3
	polling  = 4
	joining  = 5
	taking   = 6
	over     = 7
)

// all are all states.
func all() []int { return []int{ready, running, sleeping, polling, joining, taking, over} }

// no are no states, some of which are one when they are cut to fewer bits.
func no() []int {
	return []int{0, 8, 9, 15, -1, -2, -7, 100, 256 + ready, 1<<16 + running, 1<<32 + sleeping, 1<<63 - 8 + ready, math.MinInt, math.MinInt + 1, math.MinInt + ready, math.MaxInt}
}

// waits tells by the document's words whether one waits.
func waits(state int) bool { return slices.Contains([]int{sleeping, polling, joining, taking}, state) }

// may tells by the document's words whether a state may follow another one.
func may(from, to int) bool {
	switch {
	case !slices.Contains(all(), from):
		return false
	case to == running:
		return from == ready
	case to == ready:
		return from == running || waits(from)
	case waits(to):
		return from == running
	}
	return to == over && from != over
}

// task is one in a state, no part of which is as New has it.
func task(state int) api.Task {
	return api.Task{Id: 300, Tenant: 2, Prog: 3, Pc: 4, Unit: 5, Keeps: [4]int64{6, -1, 0, 256}, State: state, Ran: 7}
}

// with is a task that is changed.
func with(t api.Task, change func(t *api.Task)) api.Task {
	change(&t)
	return t
}

// good are tasks that may be, at all edges.
func good() []api.Task {
	var l []api.Task
	for _, state := range all() {
		t := task(state)
		l = append(l, t, api.Task{State: state})
		for _, id := range []int64{0, 1, 255, 256, 1 << 48, math.MaxInt64} {
			l = append(l, with(t, func(t *api.Task) { t.Id = id }))
		}
		for n := range 16 {
			l = append(l, with(t, func(t *api.Task) { t.Tenant = n }), with(t, func(t *api.Task) { t.Prog = n }))
		}
		for pc := range 33 {
			l = append(l, with(t, func(t *api.Task) { t.Pc = pc }))
		}
		for unit := range 100 {
			l = append(l, with(t, func(t *api.Task) { t.Unit = unit }))
		}
		for slot := range 4 {
			for _, id := range []int64{-1, 0, 1, 300, 1 << 48, math.MaxInt64} {
				l = append(l, with(t, func(t *api.Task) { t.Keeps[slot] = id }))
			}
		}
		for _, ran := range []int64{0, 1, 1 << 32, 1<<40 - 1, 1 << 40} {
			l = append(l, with(t, func(t *api.Task) { t.Ran = ran }))
		}
		l = append(l, api.Task{Id: math.MaxInt64, Tenant: 15, Prog: 15, Pc: 32, Unit: 99, Keeps: [4]int64{math.MaxInt64, math.MaxInt64, math.MaxInt64, math.MaxInt64}, State: state, Ran: 1 << 40})
	}
	return l
}

// minus are numbers below 0, around are these and those beyond a bound.
func minus() []int { return []int{-1, -2, -100, math.MinInt + 1, math.MinInt} }

func around(bound int) []int {
	return append(minus(), bound+1, bound+2, bound+256, bound+1<<32, math.MaxInt-1, math.MaxInt)
}

// bad are tasks that may not be: one part is wrong, or all of them.
func bad() []api.Task {
	var l []api.Task
	for _, state := range all() {
		t := task(state)
		for _, n := range minus() {
			l = append(l, with(t, func(t *api.Task) { t.Id = int64(n) }))
		}
		for _, n := range around(15) {
			l = append(l, with(t, func(t *api.Task) { t.Tenant = n }), with(t, func(t *api.Task) { t.Prog = n }))
		}
		for _, n := range around(32) {
			l = append(l, with(t, func(t *api.Task) { t.Pc = n }))
		}
		for _, n := range around(99) {
			l = append(l, with(t, func(t *api.Task) { t.Unit = n }))
		}
		for _, n := range around(1 << 40) {
			l = append(l, with(t, func(t *api.Task) { t.Ran = int64(n) }))
		}
		for slot := range 4 {
			for _, id := range []int64{-2, -3, -256, math.MinInt64 + 1, math.MinInt64} {
				l = append(l, with(t, func(t *api.Task) { t.Keeps[slot] = id }))
			}
		}
		l = append(l, api.Task{Id: -1, Tenant: -1, Prog: -1, Pc: -1, Unit: -1, Keeps: [4]int64{-2, -2, -2, -2}, State: state, Ran: -1})
	}
	for _, state := range no() {
		l = append(l, task(state), api.Task{State: state})
	}
	return l
}

// holds holds that a task is as is wanted, without an error.
func holds(t *testing.T, name string, got, want api.Task, e api.Errno) {
	t.Helper()
	if got != want || e != api.OK {
		t.Errorf("%s: %v, error %d, and not %v", name, got, e, want)
	}
}

// zero holds that there is an error, and no task beside it.
func zero(t *testing.T, name string, got api.Task, e, want api.Errno) {
	t.Helper()
	if got != (api.Task{}) || e != want {
		t.Errorf("%s: %v, error %d, and not error %d", name, got, e, want)
	}
}

// P12.1

func TestNew(t *testing.T) {
	for _, id := range []int64{0, 1, 255, 256, 300, 1 << 48, math.MaxInt64} {
		for tenant := range 16 {
			for prog := range 16 {
				x, e := New(id, tenant, prog)
				holds(t, "new", x, api.Task{Id: id, Tenant: tenant, Prog: prog, Keeps: [4]int64{-1, -1, -1, -1}, State: ready}, e)
			}
		}
	}
}

func TestNewThatMayNotBe(t *testing.T) {
	for _, n := range minus() {
		x, e := New(int64(n), 2, 3)
		zero(t, "new, id", x, e, api.ErrArg)
	}
	for _, n := range around(15) {
		x, e := New(5, n, 3)
		zero(t, "new, tenant", x, e, api.ErrArg)
		x, e = New(5, 2, n)
		zero(t, "new, program", x, e, api.ErrArg)
		x, e = New(-1, n, n)
		zero(t, "new, all of it", x, e, api.ErrArg)
	}
}

func TestCheck(t *testing.T) {
	for _, x := range good() {
		if e := Check(x); e != api.OK {
			t.Errorf("%v: error %d", x, e)
		}
	}
	for _, x := range bad() {
		if e := Check(x); e != api.ErrArg {
			t.Errorf("%v: error %d", x, e)
		}
	}
	if e := Check(api.Task{}); e != api.ErrArg { // 0 is no state
		t.Errorf("a task of zeros: error %d", e)
	}
}

func TestWaits(t *testing.T) {
	for _, state := range append(all(), no()...) {
		if Waits(state) != waits(state) {
			t.Errorf("%d waits: %t", state, Waits(state))
		}
	}
}

func TestLegal(t *testing.T) {
	for _, from := range append(all(), no()...) {
		for _, to := range append(all(), no()...) {
			if Legal(from, to) != may(from, to) {
				t.Errorf("%d may follow %d: %t", to, from, Legal(from, to))
			}
		}
	}
}

// TestLegalOnes holds the states that may follow against the chapter's lines, one by one.
func TestLegalOnes(t *testing.T) {
	ones := [][2]int{
		{ready, running}, {running, ready},
		{running, sleeping}, {running, polling}, {running, joining}, {running, taking},
		{sleeping, ready}, {polling, ready}, {joining, ready}, {taking, ready},
		{ready, over}, {running, over}, {sleeping, over}, {polling, over}, {joining, over}, {taking, over},
	}
	count := 0
	for _, from := range all() {
		for _, to := range all() {
			if Legal(from, to) {
				count++
			}
		}
	}
	for _, x := range ones {
		if !Legal(x[0], x[1]) {
			t.Errorf("%d may not follow %d", x[1], x[0])
		}
	}
	if count != len(ones) {
		t.Errorf("%d may follow, and not %d", count, len(ones))
	}
}

// P12.2

func TestMove(t *testing.T) {
	for _, x := range good() {
		for _, to := range all() {
			got, e := Move(x, to)
			if may(x.State, to) {
				holds(t, "move", got, with(x, func(x *api.Task) { x.State = to }), e)
			} else {
				zero(t, "move", got, e, api.ErrState)
			}
		}
		for _, to := range no() {
			got, e := Move(x, to)
			zero(t, "move to no state", got, e, api.ErrArg)
		}
	}
}

// TestMoveThatMayNotBe holds that ErrArg is ahead of all that may be wrong besides.
func TestMoveThatMayNotBe(t *testing.T) {
	for _, x := range bad() {
		for _, to := range append(all(), no()...) {
			got, e := Move(x, to)
			zero(t, "move", got, e, api.ErrArg)
		}
	}
}

func TestKeep(t *testing.T) {
	for _, x := range good() {
		for slot := range 4 {
			for _, id := range []int64{-1, 0, 1, 300, 1 << 48, math.MaxInt64} {
				got, e := Keep(x, slot, id)
				if x.State == over {
					zero(t, "keep, over", got, e, api.ErrState)
				} else {
					holds(t, "keep", got, with(x, func(x *api.Task) { x.Keeps[slot] = id }), e)
				}
			}
		}
	}
}

// TestKeepOneByOne lets one keep others in all its slots, and nobody again.
func TestKeepOneByOne(t *testing.T) {
	x, _ := New(9, 0, 0)
	for _, want := range [][4]int64{{-1, -1, 7, -1}, {5, -1, 7, -1}, {5, -1, 7, 5}, {5, 9, 7, 5}, {5, 9, -1, 5}, {-1, 9, -1, 5}} {
		for slot, id := range want {
			if id != x.Keeps[slot] {
				next, e := Keep(x, slot, id)
				if e != api.OK {
					t.Fatalf("keep %d in slot %d: error %d", id, slot, e)
				}
				x = next
			}
		}
		holds(t, "kept", x, api.Task{Id: 9, Keeps: want, State: ready}, api.OK)
	}
}

// TestKeepOfWhatMayNotBe holds of all that may be wrong what comes first.
func TestKeepOfWhatMayNotBe(t *testing.T) {
	for _, state := range all() { // ErrArg is ahead of one that is over
		for _, slot := range around(3) {
			for _, id := range []int64{-2, -1, 0, 7} {
				got, e := Keep(task(state), slot, id)
				zero(t, "keep, slot", got, e, api.ErrArg)
			}
		}
		for _, id := range []int64{-2, -3, -256, math.MinInt64 + 1, math.MinInt64} {
			for slot := range 4 {
				got, e := Keep(task(state), slot, id)
				zero(t, "keep, id", got, e, api.ErrArg)
			}
		}
	}
	for _, x := range bad() {
		for _, slot := range []int{-1, 0, 3, 4} {
			for _, id := range []int64{-2, -1, 0, 7} {
				got, e := Keep(x, slot, id)
				zero(t, "keep, task", got, e, api.ErrArg)
			}
		}
	}
}

// P12.3

func TestTrace(t *testing.T) {
	for _, x := range []struct {
		states []int
		at     int
	}{
		{[]int{ready}, 1},
		{[]int{running}, 0}, {[]int{sleeping}, 0}, {[]int{polling}, 0}, {[]int{joining}, 0}, {[]int{taking}, 0}, {[]int{over}, 0},
		{[]int{running, ready, running}, 0}, {[]int{over, ready}, 0}, {[]int{sleeping, ready, running, over}, 0},
		{[]int{ready, ready}, 1}, {[]int{ready, sleeping}, 1}, {[]int{ready, running}, 2}, {[]int{ready, over}, 2},
		{[]int{ready, running, running}, 2}, {[]int{ready, running, over}, 3}, {[]int{ready, running, ready}, 3},
		{[]int{ready, running, polling, polling}, 3}, {[]int{ready, running, joining, taking}, 3}, {[]int{ready, running, taking, over}, 4}, {[]int{ready, running, joining, ready}, 4},
		{[]int{ready, over, over}, 2}, {[]int{ready, over, running, over}, 2},
		{[]int{ready, ready, ready, running}, 1}, // the first one, and not the last one
	} {
		if at, e := Trace(x.states...); at != x.at || e != api.OK {
			t.Errorf("%v: %d, error %d, and not %d", x.states, at, e, x.at)
		}
	}
}

// TestTraceOfNoStates holds that of no states nothing is told, and that one that is no state comes ahead of one that may not follow, wherever they stand.
func TestTraceOfNoStates(t *testing.T) {
	if at, e := Trace(); at != 0 || e != api.ErrArg {
		t.Errorf("of none: %d, error %d", at, e)
	}
	if at, e := Trace([]int{}...); at != 0 || e != api.ErrArg {
		t.Errorf("of an empty list: %d, error %d", at, e)
	}
	for _, states := range [][]int{{}, {ready}, {ready, running}, {ready, running, taking, ready}, {over}, {ready, ready, running}, {ready, over, running}, {ready, running, ready, sleeping, polling}} {
		for _, n := range no() {
			for at := range len(states) + 1 {
				if got, e := Trace(slices.Insert(slices.Clone(states), at, n)...); got != 0 || e != api.ErrArg {
					t.Errorf("%v with %d at %d: %d, error %d", states, n, at, got, e)
				}
			}
		}
	}
}

// TestTraceOfMany holds long traces, and each state that may not follow in them, at some places.
func TestTraceOfMany(t *testing.T) {
	var states []int
	for i := range 5000 {
		states = append(states, ready, running, sleeping+i%4)
	}
	if at, e := Trace(states...); at != len(states) || e != api.OK {
		t.Errorf("%d, error %d, and not %d", at, e, len(states))
	}
	for _, at := range []int{1, 2, 3, 4, 7000, 7001, 7002, 14998, 14999} {
		for _, wrong := range all() {
			if may(states[at-1], wrong) {
				continue
			}
			l := slices.Clone(states)
			l[at] = wrong
			if got, e := Trace(l...); got != at || e != api.OK {
				t.Errorf("%d at %d: %d, error %d", wrong, at, got, e)
			}
		}
	}
}

// R2

// TestWhoseIsWhat holds that no call changes what it was handed.
func TestWhoseIsWhat(t *testing.T) {
	room := []int{ready, running, sleeping, ready, over, 0}
	if at, e := Trace(room[:3]...); at != 3 || e != api.OK || !slices.Equal(room, []int{ready, running, sleeping, ready, over, 0}) {
		t.Errorf("trace: %d, error %d, and %v behind it", at, e, room)
	}
	x := task(ready)
	moved, _ := Move(x, running)
	kept, _ := Keep(x, 0, 11)
	if x != task(ready) {
		t.Errorf("%v behind a move and a keep", x)
	}
	x.Keeps[0], x.State = 12, over
	if moved != task(running) || kept.Keeps[0] != 11 || kept.State != ready {
		t.Errorf("%v and %v hang on what was handed in", moved, kept)
	}
}
