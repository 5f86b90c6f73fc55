package step

import (
	"slices"
	"testing"

	"ravel/api"
)

// P13.4

// TestExample is the document's example.
func TestExample(t *testing.T) {
	p := []api.Instr{works(3), in(yieldOp, 0, 0)}
	x, asks, n, e := Slice(task(0, 0), p, 2)
	if x.Pc != 0 || x.Unit != 2 || asks != (api.Effect{}) || n != 2 || e != api.OK {
		t.Fatalf("two units: %v asks %v, %d done, error %d", x, asks, n, e)
	}
	x, asks, n, e = Slice(x, p, 2)
	if x.Pc != 2 || x.Unit != 0 || asks.Kind != yieldOp || n != 2 || e != api.OK {
		t.Fatalf("one, and the next instruction: %v asks %v, %d done, error %d", x, asks, n, e)
	}
}

// TestOrder does each program from its start till it is behind it, and holds what was seen of it against its units: each one is done, once, and in order.
func TestOrder(t *testing.T) {
	for _, p := range programs() {
		var seen []one
		x := with(task(0, 0), func(t *api.Task) { t.Ran = 0 })
		for x.Pc < len(p) {
			ahead := x
			next, asks, e := Do(x, p)
			if e != api.OK {
				t.Fatalf("%v of %v: error %d", x, p, e)
			}
			seen = append(seen, one{ahead.Pc, ahead.Unit, asks})
			x = next
		}
		if want := units(p); !slices.Equal(seen, want[:len(want)-1]) || x.Ran != int64(len(seen)) || x.Unit != 0 {
			t.Errorf("of %v is done %v", p, seen)
		}
	}
}

// TestNextIsWhatIsDone holds that what a unit asks for is its next instruction's, and that each one is one less that is left.
func TestNextIsWhatIsDone(t *testing.T) {
	for _, p := range programs() {
		x := task(0, 0)
		for exited := false; x.Pc < len(p); {
			in, _ := Next(x, p)
			was, _ := Left(x, p)
			next, asks, e := Do(x, p)
			if e != api.OK || in.Op == workOp && asks != (api.Effect{}) || in.Op != workOp && asks != (api.Effect{Kind: in.Op, A: in.A, B: in.B}) {
				t.Fatalf("%v of %v asks %v, error %d", in, p, asks, e)
			}
			is, e := Left(next, p)
			if e != api.OK || exited && (was != 0 || is != 0) || !exited && is != was-1 {
				t.Fatalf("%v of %v: %d were left, and %d are, error %d", in, p, was, is, e)
			}
			exited = exited || in.Op == exitOp
			x = next
		}
	}
}

// TestSlicesAreOneByOne holds that so many slices of a budget come to the same as one by one, whatever the budget is.
func TestSlicesAreOneByOne(t *testing.T) {
	for _, p := range programs() {
		for _, budget := range []int{1, 2, 3, 7, 99, 100} {
			x, y := task(0, 0), task(0, 0)
			for range 40 {
				got, asks, n, e := Slice(x, p, budget)
				if e != api.OK || n < 1 || n > budget || asks == (api.Effect{}) && n != budget {
					t.Fatalf("%v of %v, %d: %d done, asks %v, error %d", x, p, budget, n, asks, e)
				}
				y = oneByOne(t, y, p, n, asks)
				if got != y {
					t.Fatalf("%v of %v, %d: %v, and one by one %v", x, p, budget, got, y)
				}
				x = got
			}
		}
	}
}

// oneByOne does so many units, only the last one of which may ask for something.
func oneByOne(t *testing.T, x api.Task, p []api.Instr, n int, asked api.Effect) api.Task {
	t.Helper()
	for i := range n {
		next, asks, e := Do(x, p)
		if e != api.OK || i < n-1 && asks != (api.Effect{}) || i == n-1 && asks != asked {
			t.Fatalf("unit %d of %v, %v asks %v, error %d", i, x, p, asks, e)
		}
		x = next
	}
	return x
}

// TestAllSmallPrograms goes through all programs of up to four instructions of a few kinds, and from each place a task may be at there.
func TestAllSmallPrograms(t *testing.T) {
	kinds := []api.Instr{works(1), works(2), works(5), in(yieldOp, 0, 0), in(spawnOp, 3, 1), in(exitOp, 0, 0)}
	var longer func(p []api.Instr)
	longer = func(p []api.Instr) {
		if len(p) > 0 {
			everyPlace(t, p)
		}
		if len(p) == 4 {
			return
		}
		for _, x := range kinds {
			longer(append(slices.Clone(p), x))
		}
	}
	longer(nil)
}

// everyPlace asks all calls of each place and unit there could be, up to some beyond those that fit.
func everyPlace(t *testing.T, p []api.Instr) {
	t.Helper()
	l := units(p)
	for pc := range len(p) + 3 {
		for unit := range 7 {
			x := task(pc, unit)
			at := slices.IndexFunc(l, func(u one) bool { return u.pc == pc && u.unit == unit })
			got, asks, e := Do(x, p)
			n, wrong := Left(x, p)
			in, unfit := Next(x, p)
			if at < 0 {
				if got != (api.Task{}) || asks != (api.Effect{}) || n != 0 || in != (api.Instr{}) || e != api.ErrArg || wrong != api.ErrArg || unfit != api.ErrArg {
					t.Fatalf("%v of %v: %v asks %v, errors %d, %d, %d", x, p, got, asks, e, wrong, unfit)
				}
				continue
			}
			behind := l[min(at+1, len(l)-1)]
			want := with(task(behind.pc, behind.unit), func(t *api.Task) { t.Ran = 8 })
			if got != want || asks != l[at].asks || n != left(l, at) || e != api.OK || wrong != api.OK || unfit != api.OK {
				t.Fatalf("%v of %v: %v asks %v, %d left, errors %d, %d, %d", x, p, got, asks, n, e, wrong, unfit)
			}
		}
	}
}

// TestLongRun does very many units of programs that are drawn, by slices of budgets that are drawn, and now and then by wrong calls, and holds them against the units in order.
func TestLongRun(t *testing.T) {
	for _, seed := range []uint64{1, 5, 300} {
		draw := seed
		next := func(below int) int {
			draw = draw*6364136223846793005 + 1442695040888963407
			return int(draw>>33) % below
		}
		for range 300 {
			p := make([]api.Instr, 1+next(32))
			for i := range p {
				p[i] = works(1 + next(100))
				if next(3) == 0 {
					p[i] = asking()[next(len(asking()))]
				}
			}
			l, at := units(p), 0
			x := with(task(0, 0), func(t *api.Task) { t.Ran = 0 })
			for ran := int64(0); at < len(l)-1; {
				budget := next(103) - 1
				got, asks, n, e := Slice(x, p, budget)
				if budget < 1 || budget > 100 {
					cut(t, "drawn", x, p, budget, api.ErrArg)
					continue
				}
				many := 1
				for many < budget && l[at+many-1].asks == (api.Effect{}) {
					many++
				}
				asked := l[at+many-1].asks
				at, ran = min(at+many, len(l)-1), ran+int64(many)
				want := with(task(l[at].pc, l[at].unit), func(t *api.Task) { t.Ran = ran })
				if got != want || asks != asked || n != many || e != api.OK {
					t.Fatalf("%v of %v, %d: %v asks %v, %d done, error %d, and not %v, %v", x, p, budget, got, asks, n, e, want, asked)
				}
				x = got
			}
		}
	}
}
