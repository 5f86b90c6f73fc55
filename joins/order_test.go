package joins

import (
	"slices"
	"testing"

	"ravel/api"
)

// P11.4

// TestFiveMayNotWait is the document's example.
func TestFiveMayNotWait(t *testing.T) {
	l, e := Wait(nil, 5, 6)
	holds(t, "6 waits", l, of(5, 6), e)
	l, e = Wait(l, 6, 7)
	holds(t, "7 waits", l, of(5, 6, 6, 7), e)
	next, e := Wait(l, 7, 5)
	zero(t, "5 waits", next, e, api.ErrState)
}

// plain are joins written otherwise than the program has them: of each one that waits, the number of its coming, and of each two whether the one waits for the other one, on whatever way.
type plain struct {
	came   int
	on     map[int64]int64
	ticket map[int64]int
	behind map[[2]int64]bool
}

// reckon tells anew of each two whether one waits for the other one: till nothing is new, who waits for one waits for all for whom that one does.
func (p *plain) reckon() {
	p.behind = map[[2]int64]bool{}
	for who, on := range p.on {
		p.behind[[2]int64{who, on}] = true
	}
	for more := true; more; {
		more = false
		for who, on := range p.on {
			for _, far := range p.all() {
				if p.behind[[2]int64{on, far}] && !p.behind[[2]int64{who, far}] {
					p.behind[[2]int64{who, far}], more = true, true
				}
			}
		}
	}
}

// all are those for whom somebody waits.
func (p *plain) all() []int64 {
	var ids []int64
	for _, on := range p.on {
		ids = append(ids, on)
	}
	return ids
}

// joins are all of them, by tickets.
func (p *plain) joins() []api.Join {
	var l []api.Join
	for who, on := range p.on {
		l = append(l, api.Join{On: on, Who: who})
	}
	slices.SortFunc(l, func(a, b api.Join) int { return p.ticket[a.Who] - p.ticket[b.Who] })
	return l
}

func (p *plain) wait(on, who int64) api.Errno {
	if _, waits := p.on[who]; waits {
		return api.ErrThere
	}
	if on == who || p.behind[[2]int64{on, who}] {
		return api.ErrState
	}
	if len(p.on) == 256 {
		return api.ErrFull
	}
	p.came++
	p.on[who], p.ticket[who] = on, p.came
	p.reckon()
	return api.OK
}

func (p *plain) done(on int64) []int64 {
	var ids []int64
	for _, j := range p.joins() {
		if j.On == on {
			ids = append(ids, j.Who)
			delete(p.on, j.Who)
		}
	}
	p.reckon()
	return ids
}

func (p *plain) drop(who int64) api.Errno {
	if _, waits := p.on[who]; !waits {
		return api.ErrNone
	}
	delete(p.on, who)
	p.reckon()
	return api.OK
}

// TestLongRun does very many things with joins, and holds them against plain ones.
func TestLongRun(t *testing.T) {
	for _, x := range []struct{ ids, waits, dones int }{{2, 3, 1}, {3, 4, 1}, {5, 8, 1}, {9, 12, 1}, {12, 9, 3}, {25, 30, 1}} {
		var l []api.Join
		p := &plain{on: map[int64]int64{}, ticket: map[int64]int{}, behind: map[[2]int64]bool{}}
		draw := uint64(x.ids)
		next := func(below int) int {
			draw = draw*6364136223846793005 + 1442695040888963407
			return int(draw>>33) % below
		}
		met := map[api.Errno]int{}
		for step := range 3000 {
			id, other := int64(next(x.ids)), int64(next(x.ids))
			var who, ids []int64
			told, e, want := l, api.OK, api.OK
			switch at := next(x.waits + x.dones + 1); {
			case at < x.waits:
				told, e = Wait(l, other, id)
				want = p.wait(other, id)
			case at < x.waits+x.dones:
				who, told, e = Done(l, id)
				ids = p.done(id)
			default:
				told, e = Drop(l, id)
				want = p.drop(id)
			}
			met[e]++
			if !slices.Equal(who, ids) || e != want || e != api.OK && len(told) != 0 {
				t.Fatalf("%v, step %d: %v, %v, error %d, and not %v, error %d", x, step, who, told, e, ids, want)
			}
			if e == api.OK {
				l = told
			}
			if !like(l, p.joins()) || Check(l) != api.OK || !Same(l, p.joins()) {
				t.Fatalf("%v, step %d: %v, and not %v", x, step, l, p.joins())
			}
			nobodyForItself(t, l, p)
		}
		if met[api.OK] == 0 || met[api.ErrThere] == 0 || met[api.ErrState] == 0 || met[api.ErrNone] == 0 {
			t.Errorf("%v: of each error there came %v", x, met)
		}
	}
}

// nobodyForItself holds that nobody waits for itself, and for just those for whom it does in plain joins.
func nobodyForItself(t *testing.T, l []api.Join, p *plain) {
	t.Helper()
	for _, j := range l {
		way, e := For(l, j.Who)
		if e != api.OK || slices.Contains(way, j.Who) {
			t.Fatalf("%d waits for %v, error %d", j.Who, way, e)
		}
		count := 0
		for pair := range p.behind {
			if pair[0] == j.Who {
				count++
			}
		}
		for _, far := range way {
			if !p.behind[[2]int64{j.Who, far}] {
				t.Fatalf("%d waits for %d: %v", j.Who, far, l)
			}
		}
		if count != len(way) {
			t.Fatalf("%d waits for %v, and not for %d", j.Who, way, count)
		}
	}
}

// TestAllGoOnOnce lets ids be done in all kinds of orders, each as soon as it waits for none: all that wait go on, each one once, and none ahead of the one for which it waits.
func TestAllGoOnOnce(t *testing.T) {
	for _, all := range good() {
		for _, last := range []bool{false, true} { // of those that may be done the first one is, or the last one
			l := all
			over, on := map[int64]bool{}, map[int64]int{}
			var may []int64
			for _, j := range all {
				if onOf(all, j.On) < 0 && !slices.Contains(may, j.On) {
					may = append(may, j.On)
				}
			}
			for len(may) > 0 {
				at := 0
				if last {
					at = len(may) - 1
				}
				id := may[at]
				may = slices.Delete(may, at, at+1)
				who, left, e := Done(l, id)
				if e != api.OK || len(left)+len(who) != len(l) {
					t.Fatalf("%d is done: %d go on, %d of %d left, error %d", id, len(who), len(left), len(l), e)
				}
				over[id] = true
				for _, x := range who {
					on[x]++
					if onOf(all, x) != id {
						t.Fatalf("%d goes on with %d, and not with %d", x, id, onOf(all, x))
					}
				}
				may = append(may, who...)
				l = left
				if who, same, e := Done(l, id); len(who) != 0 || !like(same, l) || e != api.OK {
					t.Fatalf("%d is done twice: %v go on, error %d", id, who, e)
				}
			}
			if len(l) != 0 {
				t.Fatalf("%v wait for ever, of %v", l, all)
			}
			for _, j := range all {
				if on[j.Who] != 1 || !over[j.On] || !over[j.Who] {
					t.Fatalf("%d goes on %d times", j.Who, on[j.Who])
				}
			}
		}
	}
}

// TestAllWays does each way of a few things with joins of three ids: nobody waits for itself, and of two that would wait for each other the second one does not.
func TestAllWays(t *testing.T) {
	var ways func(l []api.Join, left int)
	ways = func(l []api.Join, left int) {
		if !mayBe(l) || Check(l) != api.OK {
			t.Fatalf("%v may not be", l)
		}
		if left == 0 {
			return
		}
		for id := range int64(3) {
			ids, want := done(l, id)
			who, next, e := Done(l, id)
			if !slices.Equal(who, ids) || !like(next, want) || e != api.OK {
				t.Fatalf("%d is done in %v: %v, %v, error %d", id, l, who, next, e)
			}
			if len(who) > 0 {
				ways(next, left-1)
			}
			if next, e := Drop(l, id); (e == api.OK) != (onOf(l, id) >= 0) {
				t.Fatalf("%d of %v waits no more: error %d", id, l, e)
			} else if e == api.OK {
				ways(next, left-1)
			}
			for on := range int64(3) {
				longer := append(slices.Clone(l), api.Join{On: on, Who: id})
				next, e := Wait(l, on, id)
				if (e == api.OK) != mayBe(longer) || e == api.OK && !like(next, longer) {
					t.Fatalf("%d waits for %d in %v: %v, error %d", id, on, l, next, e)
				}
				if e == api.OK {
					ways(next, left-1)
				}
			}
		}
	}
	ways(nil, 6)
}
