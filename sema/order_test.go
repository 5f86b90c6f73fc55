package sema

import (
	"slices"
	"testing"

	"ravel/api"
)

// P10.4

// TestOneWaits is the document's example.
func TestOneWaits(t *testing.T) {
	s, e := New(1)
	holds(t, "new", s, sem(1), e)
	now, s, e := Take(s, 5)
	holds(t, "take", s, sem(0), e)
	if !now {
		t.Error("5 waits")
	}
	now, s, e = Take(s, 6)
	holds(t, "take", s, sem(0, 6), e)
	if now {
		t.Error("6 goes on")
	}
	who, s, e := Give(s)
	holds(t, "give", s, sem(0), e)
	if who != 6 {
		t.Errorf("%d goes on, and not 6", who)
	}
}

// TestGoesOnInOrder lets many wait, some of them no more, and all others go on.
func TestGoesOnInOrder(t *testing.T) {
	for n := range 257 {
		s, _ := New(0)
		var line []int64
		for i := range n {
			id := int64(i*101%257) + 1
			_, s, _ = Take(s, id)
			if i%5 == 3 {
				s, _ = Drop(s, line[len(line)/2])
				line = without(line, len(line)/2)
			}
			line = append(line, id)
		}
		for i, want := range line {
			who, next, e := Give(s)
			holds(t, "give", next, sem(0, line[i+1:]...), e)
			if who != want {
				t.Fatalf("of %d: %d goes on, and not %d", n, who, want)
			}
			s = next
		}
		if who, s, e := Give(s); who != api.Nobody || !like(s, sem(1)) || e != api.OK {
			t.Fatalf("of %d: %d goes on behind all, %v, error %d", n, who, s, e)
		}
	}
}

// TestDroppedAndTakenAgain lets one wait no more, and then again: it waits behind all others.
func TestDroppedAndTakenAgain(t *testing.T) {
	s, e := Drop(sem(0, 4, 5, 6), 4)
	holds(t, "drop", s, sem(0, 5, 6), e)
	_, s, e = Take(s, 4)
	holds(t, "take", s, sem(0, 5, 6, 4), e)
	who, s, e := Give(s)
	holds(t, "give", s, sem(0, 6, 4), e)
	if who != 5 {
		t.Errorf("%d goes on", who)
	}
	// Who went on may wait again as well, and the one that was given is gone with it.
	_, s, e = Take(s, 5)
	holds(t, "take", s, sem(0, 6, 4, 5), e)
}

// TestOneTakesOften lets one take all there are, and wait then.
func TestOneTakesOften(t *testing.T) {
	s, _ := New(3)
	for _, want := range []api.Sem{sem(2), sem(1), sem(0), sem(0, 8)} {
		_, next, e := Take(s, 8)
		holds(t, "take", next, want, e)
		s = next
	}
	now, next, e := Take(s, 8)
	zeroYes(t, "take", now, next, e, api.ErrThere)
}

// plain is a semaphore written otherwise than the program has it: how many were free at first, were given, and went on, and tickets of those who wait, by the order in which they came.
type plain struct {
	first, given, on int
	came             int
	ticket           map[int64]int
}

// line is who waits, by tickets.
func (p *plain) line() []int64 {
	var l []int64
	for id := range p.ticket {
		l = append(l, id)
	}
	slices.SortFunc(l, func(a, b int64) int { return p.ticket[a] - p.ticket[b] })
	return l
}

func (p *plain) sem() api.Sem { return sem(p.first+p.given-p.on, p.line()...) }

func (p *plain) take(id int64) (bool, api.Errno) {
	if _, waits := p.ticket[id]; waits {
		return false, api.ErrThere
	}
	if p.on < p.first+p.given {
		p.on++
		return true, api.OK
	}
	if len(p.ticket) >= 256 {
		return false, api.ErrFull
	}
	p.came++
	p.ticket[id] = p.came
	return false, api.OK
}

func (p *plain) give() (int64, api.Errno) {
	l := p.line()
	switch {
	case len(l) > 0:
		delete(p.ticket, l[0])
		p.given++
		p.on++
		return l[0], api.OK
	case p.first+p.given-p.on >= 1000:
		return 0, api.ErrLarge
	}
	p.given++
	return -1, api.OK
}

func (p *plain) drop(id int64) api.Errno {
	if _, waits := p.ticket[id]; !waits {
		return api.ErrNone
	}
	delete(p.ticket, id)
	return api.OK
}

// TestLongRun does very many things with a semaphore, and holds it against a plain one. More take in some runs than give, in others fewer, so that lines get full, and counts get as great as they may.
func TestLongRun(t *testing.T) {
	for _, x := range []struct{ first, ids, takes, gives int }{{0, 4, 5, 5}, {1, 3, 5, 5}, {3, 12, 6, 4}, {998, 30, 3, 7}, {1000, 9, 4, 5}, {2, 400, 8, 1}, {5, 300, 5, 5}} {
		s, _ := New(x.first)
		p := &plain{first: x.first, ticket: map[int64]int{}}
		draw := uint64(x.first + x.ids)
		next := func(below int) int {
			draw = draw*6364136223846793005 + 1442695040888963407
			return int(draw>>33) % below
		}
		on, given := 0, 0
		for step := range 6000 {
			id := int64(next(x.ids))
			now, is, who, by, l, e, want := false, false, int64(0), int64(0), s, api.OK, api.OK
			switch at := next(x.takes + x.gives + 1); {
			case at < x.takes:
				now, l, e = Take(s, id)
				is, want = p.take(id)
			case at < x.takes+x.gives:
				who, l, e = Give(s)
				by, want = p.give()
				if e == api.OK {
					given++
				}
				if e == api.OK && who != api.Nobody {
					on++
				}
			default:
				l, e = Drop(s, id)
				want = p.drop(id)
			}
			if now != is || who != by || e != want || e != api.OK && !like(l, api.Sem{}) {
				t.Fatalf("%v, step %d: %t, %d, error %d, and not %t, %d, error %d", x, step, now, who, e, is, by, want)
			}
			if now {
				on++
			}
			if e == api.OK {
				s = l
			}
			if !like(s, p.sem()) || Check(s) != api.OK || !Same(s, p.sem()) {
				t.Fatalf("%v, step %d: %v, and not %v", x, step, s, p.sem())
			}
			if on > x.first+given {
				t.Fatalf("%v, step %d: %d went on, of %d, and %d given", x, step, on, x.first, given)
			}
		}
	}
}

// TestAllWays does each way of a few things with a semaphore and three ids: no more go on than there are, and those who wait in order.
func TestAllWays(t *testing.T) {
	var ways func(s api.Sem, left, may int, line []int64)
	ways = func(s api.Sem, left, may int, line []int64) {
		if may < 0 || s.Free != may || !slices.Equal(s.Wait, line) || !mayBe(s) {
			t.Fatalf("%v: %d may go on, and %v wait", s, may, line)
		}
		if left == 0 {
			return
		}
		if who, l, e := Give(s); e != api.OK {
			t.Fatalf("%v: error %d", s, e)
		} else if len(line) == 0 && who == api.Nobody {
			ways(l, left-1, may+1, line)
		} else if len(line) > 0 && who == line[0] {
			ways(l, left-1, may, line[1:])
		} else {
			t.Fatalf("%v: %d goes on", s, who)
		}
		for id := range int64(3) {
			if now, l, e := Take(s, id); e == api.OK && now {
				ways(l, left-1, may-1, line)
			} else if e == api.OK {
				ways(l, left-1, may, append(slices.Clone(line), id))
			} else if !slices.Contains(line, id) {
				t.Fatalf("%v: %d may not take: error %d", s, id, e)
			}
			if l, e := Drop(s, id); e == api.OK {
				ways(l, left-1, may, without(line, slices.Index(line, id)))
			} else if slices.Contains(line, id) {
				t.Fatalf("%v: %d may not wait no more: error %d", s, id, e)
			}
		}
	}
	for first := range 3 {
		s, _ := New(first)
		ways(s, 7, first, nil)
	}
}
