package heap

import (
	"slices"
	"testing"

	"ravel/api"
)

// P8.4

// heaps goes through all heaps of so many timers, which are At 1, 3, 5 and so on: one by one each comes to a place that is free, and whose place above is not.
func heaps(n int, tell func([]api.Timer)) {
	h := make([]api.Timer, n)
	var place func(next int)
	place = func(next int) {
		if next == n {
			tell(h)
			return
		}
		for i := range h {
			if h[i] == (api.Timer{}) && (i == 0 || h[(i-1)/4] != api.Timer{}) {
				h[i] = api.Timer{At: int64(2*next + 1), Id: int64(n - next)}
				place(next + 1)
				h[i] = api.Timer{}
			}
		}
	}
	place(0)
}

// TestAllHeaps adds to, takes out of, and resets in all small heaps there are, at all times.
func TestAllHeaps(t *testing.T) {
	for n, want := range []int{1, 1, 1, 2, 6, 24, 60, 240, 1260} {
		count := 0
		heaps(n, func(h []api.Timer) {
			count++
			for at := range int64(2*n + 2) {
				added, e := Add(h, api.Timer{At: at, Id: 99})
				holds(t, "add", added, append(slices.Clone(h), api.Timer{At: at, Id: 99}), e)
				for i, x := range h {
					want := slices.Clone(h)
					want[i].At = at
					set, e := Reset(h, x.Id, at)
					holds(t, "reset", set, want, e)
				}
				_, left, e := Expire(h, at)
				holds(t, "expire", left, slices.DeleteFunc(slices.Clone(h), func(x api.Timer) bool { return x.At <= at }), e)
			}
			if t.Failed() {
				t.Fatalf("%v", h)
			}
		})
		if count != want {
			t.Errorf("%d timers: %d heaps, and not %d", n, count, want)
		}
	}
}

// TestCancelInAllHeaps goes up to ten timers, as in nine all but the first five stand below one.
func TestCancelInAllHeaps(t *testing.T) {
	for n := 1; n <= 10; n++ {
		heaps(n, func(h []api.Timer) {
			for i, x := range h {
				cut, e := Cancel(h, x.Id)
				holds(t, "cancel", cut, slices.Delete(slices.Clone(h), i, i+1), e)
			}
			if t.Failed() {
				t.Fatalf("%v", h)
			}
		})
	}
}

// span is a long run: the heap, and all timers that it is to have, by their Ids.
type span struct {
	h    []api.Timer
	want map[int64]int64
	now  int64
	seed uint32
}

// draw is a number below another one, by a short rule.
func (s *span) draw(n int) int64 {
	s.seed = s.seed*1664525 + 1013904223
	return int64(int(s.seed>>8) % n)
}

// plain are the timers that the heap is to have, in order.
func (s *span) plain() []api.Timer {
	var l []api.Timer
	for id, at := range s.want {
		l = append(l, api.Timer{At: at, Id: id})
	}
	return inOrder(l)
}

func (s *span) add(t *testing.T) {
	x := api.Timer{At: s.now + s.draw(40), Id: s.draw(400)}
	h, e := Add(s.h, x)
	_, is := s.want[x.Id]
	switch {
	case is:
		zero(t, "there", h, e, api.ErrThere)
	case len(s.want) == api.MaxTimers:
		zero(t, "full", h, e, api.ErrFull)
	default:
		s.want[x.Id] = x.At
		s.keep(t, h, e)
	}
}

func (s *span) cancel(t *testing.T) {
	id := s.draw(400)
	h, e := Cancel(s.h, id)
	if _, is := s.want[id]; !is {
		zero(t, "none", h, e, api.ErrNone)
		return
	}
	delete(s.want, id)
	s.keep(t, h, e)
}

func (s *span) reset(t *testing.T) {
	id, at := s.draw(400), s.now+s.draw(40)
	h, e := Reset(s.h, id, at)
	if _, is := s.want[id]; !is {
		zero(t, "none", h, e, api.ErrNone)
		return
	}
	s.want[id] = at
	s.keep(t, h, e)
}

func (s *span) expire(t *testing.T) {
	s.now += s.draw(6)
	var due []int64
	for _, x := range s.plain() {
		if x.At <= s.now {
			due = append(due, x.Id)
			delete(s.want, x.Id)
		}
	}
	l, h, e := Expire(s.h, s.now)
	if !slices.Equal(l, due) {
		t.Fatalf("at %d due are %v, and not %v", s.now, l, due)
	}
	s.keep(t, h, e)
}

// keep goes on with a heap, which is to have what is wanted, and whose first one is to be the first one.
func (s *span) keep(t *testing.T, h []api.Timer, e api.Errno) {
	s.h = h
	want := s.plain()
	l, f := Sorted(h)
	if e != api.OK || f != api.OK || Check(h) != api.OK || !slices.Equal(l, want) || !Same(h, want) {
		t.Fatalf("%v, errors %d and %d, and not %v", h, e, f, want)
	}
	if x, e := Least(h); len(want) > 0 && (x != want[0] || e != api.OK) {
		t.Fatalf("first is %v, error %d, and not %v", x, e, want[0])
	}
}

func TestLongRuns(t *testing.T) {
	for _, x := range []struct {
		from                         int64
		add, cancel, expire, n, most int
	}{{0, 5, 6, 8, 1500, 30}, {api.MaxTime - 10000, 7, 8, 9, 1000, 70}, {77, 15, 16, 17, 800, 100}, {5, 3, 6, 7, 1000, 30}, {0, 18, 19, 19, 1000, 256}} {
		s := &span{want: map[int64]int64{}, now: x.from, seed: uint32(x.n + x.add)}
		most := 0
		for range x.n {
			switch k := int(s.draw(20)); {
			case k < x.add:
				s.add(t)
			case k < x.cancel:
				s.cancel(t)
			case k < x.expire:
				s.expire(t)
			default:
				s.reset(t)
			}
			most = max(most, len(s.h))
		}
		if most < x.most {
			t.Errorf("from %d: %d at the most", x.from, most)
		}
	}
}

// TestWhatIsAddedComesInOrder fills a heap, takes some out, and lets the others come tick by tick.
func TestWhatIsAddedComesInOrder(t *testing.T) {
	var h []api.Timer
	var want []int64
	for i := range int64(api.MaxTimers) {
		added, e := Add(h, api.Timer{At: i * 37 % 101, Id: i * 91 % 256})
		if e != api.OK {
			t.Fatalf("error %d", e)
		}
		h = added
	}
	for _, x := range inOrder(h) {
		if x.Id%3 == 0 {
			cut, e := Cancel(h, x.Id)
			if e != api.OK {
				t.Fatalf("error %d", e)
			}
			h = cut
		} else {
			want = append(want, x.Id)
		}
	}
	var came []int64
	for now := range int64(101) {
		first, e := Least(h)
		due, left, f := Expire(h, now)
		if e != api.OK || f != api.OK || (first.At <= now) != (len(due) > 0) {
			t.Fatalf("at %d: %v is first, and %v are due, errors %d and %d", now, first, due, e, f)
		}
		came, h = append(came, due...), left
		if len(left) == 0 {
			break
		}
	}
	if !slices.Equal(came, want) || len(h) != 0 {
		t.Errorf("%v came, and %v are left; not %v", came, h, want)
	}
}
