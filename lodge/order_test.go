package lodge

import (
	"slices"
	"testing"

	"ravel/api"
)

// P14.3

// TestTheSecondIsRefused is the document's example.
func TestTheSecondIsRefused(t *testing.T) {
	l, e := New([]int{1}, []int{1})
	holds(t, "new", l, []api.Tenant{ten(1, 1, 0, 0, 0)}, e)
	l, e = Admit(l, 0)
	holds(t, "the first one", l, []api.Tenant{ten(1, 1, 1, 0, 0)}, e)
	none, e := Admit(l, 0)
	zero(t, "the second one", none, e, api.ErrQuota)
	l, e = Leave(l, 0)
	holds(t, "leaves", l, []api.Tenant{ten(1, 1, 0, 0, 0)}, e)
	none, e = Leave(l, 0)
	zero(t, "leaves again", none, e, api.ErrState)
	l, e = Admit(l, 0)
	holds(t, "is admitted again", l, []api.Tenant{ten(1, 1, 1, 0, 0)}, e)
}

// TestAdmittedAndLeft holds that who was admitted, and left, leaves all as it was, and the other way about.
func TestAdmittedAndLeft(t *testing.T) {
	for _, l := range good() {
		for i := range l {
			if in, e := Admit(l, i); e == api.OK {
				out, e := Leave(in, i)
				holds(t, "admitted, and left", out, l, e)
			}
			if out, e := Leave(l, i); e == api.OK {
				in, e := Admit(out, i)
				holds(t, "left, and admitted", in, l, e)
			}
		}
	}
}

// TestSoManyAsItsQuota fills each quota there is, beside others, asks once more, and lets all leave.
func TestSoManyAsItsQuota(t *testing.T) {
	for quota := range 257 {
		first := []api.Tenant{usual(), ten(2, quota, 0, 5, 6), most()}
		l := first
		for n := range quota {
			next, e := Admit(l, 1)
			holds(t, "admit", next, but(first, 1, func(t *api.Tenant) { t.Live = n + 1 }), e)
			l = next
		}
		for range 3 {
			none, e := Admit(l, 1)
			zero(t, "one more", none, e, api.ErrQuota)
		}
		for n := range quota {
			next, e := Leave(l, 1)
			holds(t, "leave", next, but(first, 1, func(t *api.Tenant) { t.Live = quota - n - 1 }), e)
			l = next
		}
		none, e := Leave(l, 1)
		zero(t, "one more leaves", none, e, api.ErrState)
	}
}

// TestCountedInParts holds that units come to the same, in parts or at once, up to the last one that may be.
func TestCountedInParts(t *testing.T) {
	for _, parts := range [][]int64{{mostRan}, {mostRan - 1, 1}, {1, mostRan - 1}, {1 << 39, 1 << 39}, {0, 5, 0, mostRan - 5}, {1, 2, 3, mostRan - 6}} {
		l := []api.Tenant{least(), usual()}
		sum := int64(0)
		for _, units := range parts {
			next, e := Count(l, 0, units)
			sum += units
			holds(t, "count", next, []api.Tenant{ten(1, 0, 0, 0, sum), usual()}, e)
			l = next
		}
		if live, ran, e := All(l); live != 5 || ran != mostRan+44 || e != api.OK {
			t.Errorf("%v: %d and %d, error %d", parts, live, ran, e)
		}
		none, e := Count(l, 0, 1)
		zero(t, "one more", none, e, api.ErrLarge)
		l, e = Count(l, 0, 0)
		holds(t, "none more", l, []api.Tenant{ten(1, 0, 0, 0, mostRan), usual()}, e)
	}
}

// guests are tenants written otherwise than the program has them: the names of the tasks that each one has, and all units that were counted, one by one.
type guests struct {
	weights, quotas []int
	names           [][]int
	came            int
	units           [][]int64
}

func (g *guests) tenants() []api.Tenant {
	var l []api.Tenant
	for i := range g.weights {
		l = append(l, ten(g.weights[i], g.quotas[i], len(g.names[i]), 0, g.ran(i)))
	}
	return l
}

func (g *guests) ran(i int) int64 {
	sum := int64(0)
	for _, units := range g.units[i] {
		sum += units
	}
	return sum
}

func (g *guests) has(i int) bool { return i >= 0 && i < len(g.weights) }

func (g *guests) admit(i int) api.Errno {
	switch {
	case !g.has(i):
		return api.ErrNone
	case len(g.names[i]) >= g.quotas[i]:
		return api.ErrQuota
	}
	g.came++
	g.names[i] = append(g.names[i], g.came)
	return api.OK
}

func (g *guests) leave(i int) api.Errno {
	switch {
	case !g.has(i):
		return api.ErrNone
	case len(g.names[i]) == 0:
		return api.ErrState
	}
	g.names[i] = g.names[i][1:]
	return api.OK
}

func (g *guests) count(i int, units int64) api.Errno {
	switch {
	case !g.has(i):
		return api.ErrNone
	case units < 0:
		return api.ErrArg
	case units > mostRan || g.ran(i)+units > mostRan:
		return api.ErrLarge
	}
	g.units[i] = append(g.units[i], units)
	return api.OK
}

// TestLongRun does very many things with tenants, and holds them against guests. In some runs more are admitted than leave, so that quotas are full, in others fewer, and units are some few, or so many that there are no more.
func TestLongRun(t *testing.T) {
	for _, x := range []struct{ tenants, quota, admits, leaves, most int }{{1, 1, 4, 4, 5}, {1, 0, 3, 3, 1 << 39}, {2, 256, 9, 1, 1 << 37}, {5, 7, 5, 5, 100}, {16, 20, 7, 3, 1 << 40}, {16, 256, 3, 6, 1 << 38}} {
		draw := uint64(x.tenants*1000 + x.quota)
		next := func(below int) int {
			draw = draw*6364136223846793005 + 1442695040888963407
			return int(draw>>20) % below
		}
		g := &guests{names: make([][]int, x.tenants), units: make([][]int64, x.tenants)}
		for range x.tenants {
			g.weights, g.quotas = append(g.weights, 1+next(16)), append(g.quotas, next(x.quota+1))
		}
		l, e := New(g.weights, g.quotas)
		holds(t, "new", l, g.tenants(), e)
		for step := range 4000 {
			i := next(x.tenants+2) - 1
			var told []api.Tenant
			var want api.Errno
			switch at := next(x.admits + x.leaves + 1); {
			case at < x.admits:
				told, e = Admit(l, i)
				want = g.admit(i)
			case at < x.admits+x.leaves:
				told, e = Leave(l, i)
				want = g.leave(i)
			default:
				units := int64(next(x.most+2) - 1)
				told, e = Count(l, i, units)
				want = g.count(i, units)
			}
			if e != want || e != api.OK && len(told) != 0 {
				t.Fatalf("%v, step %d: %v, error %d, and not error %d", x, step, told, e, want)
			}
			if e == api.OK {
				l = told
			}
			inStep(t, l, g)
		}
	}
}

// inStep holds tenants against guests, and each one's tasks against its quota.
func inStep(t *testing.T, l []api.Tenant, g *guests) {
	t.Helper()
	live, ran := 0, int64(0)
	for i, x := range l {
		live, ran = live+len(g.names[i]), ran+g.ran(i)
		if x.Live > g.quotas[i] {
			t.Fatalf("%d has %d tasks, of %d", i, x.Live, g.quotas[i])
		}
	}
	gotLive, gotRan, e := All(l)
	if !Same(l, g.tenants()) || Check(l) != api.OK || gotLive != live || gotRan != ran || e != api.OK {
		t.Fatalf("%v, %d and %d, error %d, and not %v, %d and %d", l, gotLive, gotRan, e, g.tenants(), live, ran)
	}
}

// TestAllWays does each way of a few things with three tenants: none has more than its quota, or fewer than none.
func TestAllWays(t *testing.T) {
	quotas := []int{0, 1, 3}
	var ways func(l []api.Tenant, left int, live []int)
	ways = func(l []api.Tenant, left int, live []int) {
		for i, n := range live {
			if l[i] != ten(i+1, quotas[i], n, 0, 0) || n < 0 || n > quotas[i] {
				t.Fatalf("%v, and not %v", l, live)
			}
		}
		if left == 0 {
			return
		}
		for i := range l {
			more, fewer := slices.Clone(live), slices.Clone(live)
			more[i]++
			fewer[i]--
			if in, e := Admit(l, i); e == api.OK {
				ways(in, left-1, more)
			} else if live[i] != quotas[i] || e != api.ErrQuota {
				t.Fatalf("%v: %d is refused: error %d", l, i, e)
			}
			if out, e := Leave(l, i); e == api.OK {
				ways(out, left-1, fewer)
			} else if live[i] != 0 || e != api.ErrState {
				t.Fatalf("%v: %d may not leave: error %d", l, i, e)
			}
		}
	}
	l, _ := New([]int{1, 2, 3}, quotas)
	ways(l, 9, []int{0, 0, 0})
}
