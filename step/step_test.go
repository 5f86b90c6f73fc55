package step

import (
	"math"
	"slices"
	"testing"

	"ravel/api"
)

// The numbers of the document's words, which stand here as numbers of their own.
const (
	workOp   = 1
	spawnOp  = 2
	yieldOp  = 3
	sleepOp  = 4
	ioOp     = 5
	joinOp   = 6
	takeOp   = 7
	giveOp   = 8
	exitOp   = 9
	ready    = 1
	running  = 2
	sleeping = 3
	over     = 7
	mostRan  = 1 << 40
)

func in(op, a, b int) api.Instr { return api.Instr{Op: op, A: a, B: b} }

func works(a int) api.Instr { return in(workOp, a, 0) }

// asking are instructions that ask for something, at the edges of their numbers.
func asking() []api.Instr {
	return []api.Instr{
		in(spawnOp, 0, 0), in(spawnOp, 15, 3), in(spawnOp, 0, 3), in(spawnOp, 15, 0), in(spawnOp, 7, 1), in(yieldOp, 0, 0),
		in(sleepOp, 1, 0), in(sleepOp, 1000, 0), in(ioOp, 0, 0), in(ioOp, 15, 0), in(joinOp, 0, 0), in(joinOp, 3, 0),
		in(takeOp, 0, 0), in(takeOp, 7, 0), in(giveOp, 0, 0), in(giveOp, 7, 0), in(exitOp, 0, 0),
	}
}

// wrong are instructions that may not be.
func wrong() []api.Instr {
	return []api.Instr{
		{}, in(10, 0, 0), in(-1, 0, 0), works(0), works(101), works(-1), in(workOp, 1, 1), in(spawnOp, 16, 0), in(spawnOp, 0, 4), in(spawnOp, -1, 0),
		in(yieldOp, 1, 0), in(yieldOp, 0, 1), in(sleepOp, 0, 0), in(sleepOp, 1001, 0), in(ioOp, 16, 0), in(joinOp, 4, 0), in(takeOp, 8, 0), in(giveOp, -1, 0),
		in(exitOp, 1, 0), in(exitOp, 0, 1), in(256+exitOp, 0, 0), in(1<<32+workOp, 1, 0),
	}
}

// task is one at a place of a program, which runs, and no part of which is as a new one's.
func task(pc, unit int) api.Task {
	return api.Task{Id: 300, Tenant: 2, Prog: 3, Pc: pc, Unit: unit, Keeps: [4]int64{6, -1, 0, 256}, State: running, Ran: 7}
}

// with is a task that is changed.
func with(t api.Task, change func(t *api.Task)) api.Task {
	change(&t)
	return t
}

// mixed is a program with all kinds of instructions, the fifth of which is its first exit.
func mixed() []api.Instr {
	return []api.Instr{works(3), in(spawnOp, 1, 2), works(1), in(yieldOp, 0, 0), in(exitOp, 0, 0), works(100), in(sleepOp, 1000, 0), in(exitOp, 0, 0), in(ioOp, 15, 0), works(2)}
}

// programs are some that may be, at the edges of how many instructions and units there are, with exits at all places, and with none.
func programs() [][]api.Instr {
	l := [][]api.Instr{
		mixed(), asking(), {works(1)}, {works(2)}, {works(100)}, {works(1), works(1)}, {works(2), in(exitOp, 0, 0), works(2)},
		slices.Repeat([]api.Instr{works(100)}, 32), slices.Repeat([]api.Instr{works(1)}, 32), slices.Repeat([]api.Instr{in(yieldOp, 0, 0)}, 32),
		slices.Repeat([]api.Instr{in(exitOp, 0, 0)}, 32),
	}
	for _, x := range asking() {
		l = append(l, []api.Instr{x}, []api.Instr{works(2), x, works(3)}, []api.Instr{x, x})
	}
	for at := range 32 {
		p := slices.Repeat([]api.Instr{works(2), in(giveOp, 1, 0)}, 16)
		p[at] = in(exitOp, 0, 0)
		l = append(l, p)
	}
	return l
}

// one is a unit of a program: where it is, and what it asks for.
type one struct {
	pc, unit int
	asks     api.Effect
}

// units are all units of a program, one behind the other, whatever exits there are; behind them there is the exit of zeros.
func units(p []api.Instr) []one {
	var l []one
	for pc, x := range p {
		if x.Op != workOp {
			l = append(l, one{pc, 0, api.Effect{Kind: x.Op, A: x.A, B: x.B}})
			continue
		}
		for unit := range x.A {
			l = append(l, one{pc: pc, unit: unit})
		}
	}
	return append(l, one{len(p), 0, api.Effect{Kind: exitOp}})
}

// left tells by these units how many there are yet from one of them on.
func left(l []one, at int) int {
	for i, x := range l[:len(l)-1] {
		if x.asks.Kind == exitOp {
			return max(i+1-at, 0)
		}
	}
	return len(l) - 1 - at
}

// unfit are tasks with programs that they don't fit, all of which run.
func unfit() []struct {
	t api.Task
	p []api.Instr
} {
	type pair = struct {
		t api.Task
		p []api.Instr
	}
	l := []pair{
		{task(0, 0), nil}, {task(0, 0), []api.Instr{}}, {task(0, 0), slices.Repeat([]api.Instr{works(1)}, 33)}, {task(32, 0), slices.Repeat([]api.Instr{works(1)}, 33)},
		{task(33, 0), slices.Repeat([]api.Instr{works(1)}, 33)}, {task(0, 0), slices.Repeat([]api.Instr{works(1)}, 300)},
	}
	for _, x := range wrong() {
		for at := range 4 {
			p := []api.Instr{works(3), in(exitOp, 0, 0), in(yieldOp, 0, 0), works(1)}
			p[at] = x
			for _, pc := range []int{0, 3, 4} {
				l = append(l, pair{task(pc, 0), p})
			}
		}
	}
	for _, p := range [][]api.Instr{mixed(), {works(1)}, {in(exitOp, 0, 0)}, slices.Repeat([]api.Instr{works(100)}, 32)} {
		for _, pc := range []int{len(p) + 1, len(p) + 2, 33, 256, 1 << 32, math.MaxInt, -1, -2, math.MinInt} {
			l = append(l, pair{task(pc, 0), p})
		}
		for pc := range len(p) + 1 {
			bound := 1
			if pc < len(p) && p[pc].Op == workOp {
				bound = p[pc].A
			}
			for _, unit := range []int{bound, bound + 1, 99, 100, 256, math.MaxInt, -1, -100, math.MinInt} {
				if unit < 0 || unit >= bound {
					l = append(l, pair{task(pc, unit), p})
				}
			}
		}
		for _, t := range broken(task(0, 0)) {
			l = append(l, pair{t, p})
		}
	}
	return l
}

// broken are tasks that may not be: one part of them is wrong.
func broken(t api.Task) []api.Task {
	l := []api.Task{}
	for _, change := range []func(t *api.Task){
		func(t *api.Task) { t.Id = -1 },
		func(t *api.Task) { t.Tenant = -1 },
		func(t *api.Task) { t.Tenant = 16 },
		func(t *api.Task) { t.Prog = -1 },
		func(t *api.Task) { t.Prog = 16 },
		func(t *api.Task) { t.Keeps[0] = -2 },
		func(t *api.Task) { t.Keeps[3] = -2 },
		func(t *api.Task) { t.State = 0 },
		func(t *api.Task) { t.State = 8 },
		func(t *api.Task) { t.State = -1 },
		func(t *api.Task) { t.Ran = -1 },
		func(t *api.Task) { t.Ran = mostRan + 1 },
		func(t *api.Task) { t.Ran = math.MaxInt64 },
	} {
		l = append(l, with(t, change))
	}
	return l
}

// did holds that a unit was done as is wanted, without an error.
func did(t *testing.T, name string, got, want api.Task, asks, asked api.Effect, e api.Errno) {
	t.Helper()
	if got != want || asks != asked || e != api.OK {
		t.Errorf("%s: %v asks %v, error %d, and not %v, %v", name, got, asks, e, want, asked)
	}
}

// refuses holds that Do and Slice of each budget that may be answer an error alone.
func refuses(t *testing.T, name string, x api.Task, p []api.Instr, want api.Errno) {
	t.Helper()
	got, asks, e := Do(x, p)
	if got != (api.Task{}) || asks != (api.Effect{}) || e != want {
		t.Errorf("%s: Do %v of %v: %v asks %v, error %d, and not error %d", name, x, p, got, asks, e, want)
	}
	for _, budget := range []int{1, 2, 100} {
		cut(t, name, x, p, budget, want)
	}
}

// cut holds that Slice answers an error alone.
func cut(t *testing.T, name string, x api.Task, p []api.Instr, budget int, want api.Errno) {
	t.Helper()
	got, asks, n, e := Slice(x, p, budget)
	if got != (api.Task{}) || asks != (api.Effect{}) || n != 0 || e != want {
		t.Errorf("%s: Slice %v of %v, %d: %v asks %v, %d done, error %d, and not error %d", name, x, p, budget, got, asks, n, e, want)
	}
}

// P13.1

func TestNext(t *testing.T) {
	for _, p := range programs() {
		for pc := range len(p) + 1 {
			want := in(exitOp, 0, 0)
			if pc < len(p) {
				want = p[pc]
			}
			if got, e := Next(task(pc, 0), p); got != want || e != api.OK {
				t.Errorf("at %d of %v: %v, error %d", pc, p, got, e)
			}
		}
	}
	for unit := range 100 { // that some of its units are done plays no part
		if got, e := Next(task(0, unit), []api.Instr{works(100)}); got != works(100) || e != api.OK {
			t.Errorf("behind %d units: %v, error %d", unit, got, e)
		}
	}
}

// TestNextOfAllStates holds that Next and Left are told of tasks that don't run, and of those that have run as many units as may be.
func TestNextOfAllStates(t *testing.T) {
	for state := ready; state <= over; state++ {
		for _, ran := range []int64{0, 1, mostRan - 1, mostRan} {
			x := with(task(1, 0), func(t *api.Task) { t.State, t.Ran = state, ran })
			if got, e := Next(x, mixed()); got != in(spawnOp, 1, 2) || e != api.OK {
				t.Errorf("state %d, %d units: %v, error %d", state, ran, got, e)
			}
			if n, e := Left(x, mixed()); n != 4 || e != api.OK {
				t.Errorf("state %d, %d units: %d left, error %d", state, ran, n, e)
			}
		}
	}
}

// TestUnfit holds that all calls refuse a task that does not fit.
func TestUnfit(t *testing.T) {
	for _, x := range unfit() {
		refuses(t, "unfit", x.t, x.p, api.ErrArg)
		if got, e := Next(x.t, x.p); got != (api.Instr{}) || e != api.ErrArg {
			t.Errorf("Next of %v, %v: %v, error %d", x.t, x.p, got, e)
		}
		if n, e := Left(x.t, x.p); n != 0 || e != api.ErrArg {
			t.Errorf("Left of %v, %v: %d, error %d", x.t, x.p, n, e)
		}
	}
}

func TestDoOfWhatAsks(t *testing.T) {
	for _, x := range asking() {
		for pc := range 32 {
			p := slices.Repeat([]api.Instr{works(2)}, 32)
			p[pc] = x
			got, asks, e := Do(task(pc, 0), p)
			did(t, "at its place", got, with(task(pc+1, 0), func(t *api.Task) { t.Ran = 8 }), asks, api.Effect{Kind: x.Op, A: x.A, B: x.B}, e)
		}
		got, asks, e := Do(task(0, 0), []api.Instr{x})
		did(t, "alone", got, with(task(1, 0), func(t *api.Task) { t.Ran = 8 }), asks, api.Effect{Kind: x.Op, A: x.A, B: x.B}, e)
	}
}

func TestDoOfWork(t *testing.T) {
	for a := 1; a <= 100; a++ {
		for _, pc := range []int{0, 1, 31} {
			p := slices.Repeat([]api.Instr{in(yieldOp, 0, 0)}, 32)
			p[pc] = works(a)
			for unit := range a {
				want := task(pc, unit+1)
				if unit == a-1 {
					want = task(pc+1, 0)
				}
				want.Ran = 8
				got, asks, e := Do(task(pc, unit), p)
				did(t, "work", got, want, asks, api.Effect{}, e)
			}
		}
	}
}

// TestDoBehindTheLast holds that a task stays behind the last instruction, and asks to exit again and again.
func TestDoBehindTheLast(t *testing.T) {
	for _, p := range programs() {
		x := task(len(p), 0)
		for n := range 5 {
			got, asks, e := Do(x, p)
			did(t, "behind", got, with(task(len(p), 0), func(t *api.Task) { t.Ran = int64(8 + n) }), asks, api.Effect{Kind: exitOp}, e)
			x = got
		}
	}
}

// TestDoLeavesTheRest holds that only Pc, Unit and Ran are others, at the edges of all parts.
func TestDoLeavesTheRest(t *testing.T) {
	for _, start := range []api.Task{
		{State: running},
		{Id: math.MaxInt64, Tenant: 15, Prog: 15, Keeps: [4]int64{math.MaxInt64, 0, -1, 1 << 48}, State: running, Ran: mostRan - 1},
		{Id: 1, Keeps: [4]int64{-1, -1, -1, -1}, State: running, Ran: 1 << 32},
	} {
		for _, p := range programs() {
			l := units(p)
			for i, u := range l {
				x := with(start, func(t *api.Task) { t.Pc, t.Unit = u.pc, u.unit })
				want := with(x, func(t *api.Task) { t.Ran++ })
				behind := l[min(i+1, len(l)-1)]
				want.Pc, want.Unit = behind.pc, behind.unit
				got, asks, e := Do(x, p)
				did(t, "do", got, want, asks, u.asks, e)
			}
		}
	}
}

func TestDoOfOtherStates(t *testing.T) {
	for state := ready; state <= over; state++ {
		if state == running {
			continue
		}
		for _, pc := range []int{0, 1, 4, 5, 10} {
			x := with(task(pc, 0), func(t *api.Task) { t.State = state })
			refuses(t, "not running", x, mixed(), api.ErrState)
			x.Ran = mostRan // which is named behind it
			refuses(t, "not running, and too far", x, mixed(), api.ErrState)
		}
		refuses(t, "not running, nor fitting", with(task(11, 0), func(t *api.Task) { t.State = state }), mixed(), api.ErrArg)
		refuses(t, "not running, nor fitting, and too far", with(task(0, 3), func(t *api.Task) { t.State, t.Ran = state, mostRan }), mixed(), api.ErrArg)
	}
}

func TestDoTooFar(t *testing.T) {
	for _, p := range programs() {
		for _, u := range units(p) {
			x := with(task(u.pc, u.unit), func(t *api.Task) { t.Ran = mostRan })
			refuses(t, "too far", x, p, api.ErrLarge)
			x.Ran-- // the last one that may be done
			got, asks, e := Do(x, p)
			if got.Ran != mostRan || asks != u.asks || e != api.OK {
				t.Errorf("the last unit of all: %v asks %v, error %d", got, asks, e)
			}
		}
		refuses(t, "too far, nor fitting", with(task(len(p)+1, 0), func(t *api.Task) { t.Ran = mostRan }), p, api.ErrArg)
	}
}

// P13.2

// TestSlice holds slices of each budget, from each unit of programs, against the units in order.
func TestSlice(t *testing.T) {
	for _, p := range programs() {
		l := units(p)
		for at, u := range l {
			for _, budget := range []int{1, 2, 3, 4, 50, 99, 100} {
				n := 1
				for n < budget && l[at+n-1].asks == (api.Effect{}) {
					n++
				}
				behind := l[min(at+n, len(l)-1)]
				want := with(task(behind.pc, behind.unit), func(t *api.Task) { t.Ran = int64(7 + n) })
				got, asks, done, e := Slice(task(u.pc, u.unit), p, budget)
				if got != want || asks != l[at+n-1].asks || done != n || e != api.OK {
					t.Errorf("%v at %d, %d, %d: %v asks %v, %d done, error %d, and not %v, %d", p, u.pc, u.unit, budget, got, asks, done, e, want, n)
				}
			}
		}
	}
}

// TestSliceEndsAtItsBudget holds each budget there is against work that is longer, as long, and shorter.
func TestSliceEndsAtItsBudget(t *testing.T) {
	for budget := 1; budget <= 100; budget++ {
		for a := 1; a <= 100; a++ {
			p := []api.Instr{works(a), in(takeOp, 3, 0), works(100)}
			want, asks, n := task(0, budget), api.Effect{}, budget
			if a == budget {
				want = task(1, 0)
			} else if a < budget {
				want, asks, n = task(2, 0), api.Effect{Kind: takeOp, A: 3}, a+1
			}
			want.Ran = int64(7 + n)
			got, told, done, e := Slice(task(0, 0), p, budget)
			did(t, "slice", got, want, told, asks, e)
			if done != n {
				t.Errorf("%d of work %d: %d done, and not %d", budget, a, done, n)
			}
		}
	}
}

// TestSliceOfSeveralWorks holds that a slice goes on from one work to the next one.
func TestSliceOfSeveralWorks(t *testing.T) {
	p := slices.Repeat([]api.Instr{works(3)}, 32)
	for budget := 1; budget <= 95; budget++ {
		got, asks, n, e := Slice(task(0, 0), p, budget)
		did(t, "slice", got, with(task(budget/3, budget%3), func(t *api.Task) { t.Ran = int64(7 + budget) }), asks, api.Effect{}, e)
		if n != budget {
			t.Errorf("%d: %d done", budget, n)
		}
	}
	for budget := 97; budget <= 100; budget++ { // the exit behind the last one is done as well
		got, asks, n, e := Slice(task(0, 0), p, budget)
		did(t, "to the end", got, with(task(32, 0), func(t *api.Task) { t.Ran = 7 + 97 }), asks, api.Effect{Kind: exitOp}, e)
		if n != 97 {
			t.Errorf("%d: %d done", budget, n)
		}
	}
}

func TestSliceOfWrongBudgets(t *testing.T) {
	for _, budget := range []int{0, -1, -2, -100, math.MinInt, math.MinInt + 1, 101, 102, 256, 257, 1<<32 + 1, math.MaxInt} {
		cut(t, "budget", task(0, 0), mixed(), budget, api.ErrArg)
		cut(t, "budget, behind the last one", task(10, 0), mixed(), budget, api.ErrArg)
		cut(t, "budget, unfit", task(11, 0), mixed(), budget, api.ErrArg)
		cut(t, "budget, not running", with(task(0, 0), func(t *api.Task) { t.State = sleeping }), mixed(), budget, api.ErrArg)
		cut(t, "budget, too far", with(task(0, 0), func(t *api.Task) { t.Ran = mostRan }), mixed(), budget, api.ErrArg)
	}
}

// TestSliceTooFar holds that a slice that comes to MaxRan on its way is refused, but not one that ends just there.
func TestSliceTooFar(t *testing.T) {
	p := []api.Instr{works(50), in(yieldOp, 0, 0)}
	for ahead := range 60 {
		start := with(task(0, 0), func(t *api.Task) { t.Ran = mostRan - int64(ahead) })
		for budget := 1; budget <= 100; budget++ {
			n := min(budget, 51)
			if n > ahead {
				cut(t, "too far", start, p, budget, api.ErrLarge)
				continue
			}
			got, _, done, e := Slice(start, p, budget)
			if got.Ran != start.Ran+int64(n) || done != n || e != api.OK {
				t.Errorf("%d units ahead, %d: %v, %d done, error %d", ahead, budget, got, done, e)
			}
		}
	}
}

// P13.3

func TestLeft(t *testing.T) {
	for _, p := range programs() {
		l := units(p)
		for at, u := range l {
			if n, e := Left(task(u.pc, u.unit), p); n != left(l, at) || e != api.OK {
				t.Errorf("%v at %d, %d: %d, error %d, and not %d", p, u.pc, u.unit, n, e, left(l, at))
			}
		}
	}
}

// TestLeftByHand holds what is left of one program against numbers that were counted by hand.
func TestLeftByHand(t *testing.T) {
	for _, x := range []struct{ pc, unit, left int }{
		{0, 0, 7}, {0, 1, 6}, {0, 2, 5}, {1, 0, 4}, {2, 0, 3}, {3, 0, 2}, {4, 0, 1}, {5, 0, 0}, {5, 1, 0}, {5, 99, 0}, {6, 0, 0}, {7, 0, 0}, {8, 0, 0}, {9, 1, 0}, {10, 0, 0},
	} {
		if n, e := Left(task(x.pc, x.unit), mixed()); n != x.left || e != api.OK {
			t.Errorf("at %d, %d: %d, error %d, and not %d", x.pc, x.unit, n, e, x.left)
		}
	}
	most := slices.Repeat([]api.Instr{works(100)}, 32)
	for _, x := range []struct{ pc, unit, left int }{{0, 0, 3200}, {0, 99, 3101}, {31, 0, 100}, {31, 99, 1}, {32, 0, 0}} {
		if n, e := Left(task(x.pc, x.unit), most); n != x.left || e != api.OK {
			t.Errorf("at %d, %d of the longest: %d, error %d, and not %d", x.pc, x.unit, n, e, x.left)
		}
	}
	for _, x := range []struct{ pc, unit, left int }{{0, 0, 2}, {1, 0, 1}, {2, 0, 0}} { // without an exit
		if n, e := Left(task(x.pc, x.unit), []api.Instr{in(giveOp, 0, 0), works(1)}); n != x.left || e != api.OK {
			t.Errorf("at %d without an exit: %d, error %d, and not %d", x.pc, n, e, x.left)
		}
	}
}

// R2

// TestWhoseIsWhat holds that a program is as it was, and that what is written into it behind a call plays no part.
func TestWhoseIsWhat(t *testing.T) {
	for _, p := range programs() {
		room := append(slices.Clone(p), in(giveOp, 7, 0)) // what stands behind a program is not its own
		mine := room[:len(p)]
		for _, u := range units(p) {
			x := task(u.pc, u.unit)
			got, asks, _ := Do(x, mine)
			next, _ := Next(x, mine)
			_, _ = Left(x, mine)
			_, _, _, _ = Slice(x, mine, 100)
			if !slices.Equal(mine, p) || room[len(p)] != in(giveOp, 7, 0) || x != task(u.pc, u.unit) {
				t.Fatalf("%v is %v now, and the task %v", p, room, x)
			}
			was, wanted, first := got, asks, next
			for i := range room {
				room[i] = works(77)
			}
			if got != was || asks != wanted || next != first {
				t.Errorf("what was told of %v is another one", p)
			}
			again, told, e := Do(x, p)
			did(t, "the same again", again, got, told, asks, e)
			copy(room, append(slices.Clone(p), in(giveOp, 7, 0)))
		}
	}
}
