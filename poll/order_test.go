package poll

import (
	"slices"
	"testing"

	"ravel/api"
)

// P9.4

// TestTwiceAheadAndArmedTwice is the document's example.
func TestTwiceAheadAndArmedTwice(t *testing.T) {
	f, _ := New(1)
	f, _ = Open(f, 0)
	for range 2 {
		who, fired, e := Fire(f, 0)
		holds(t, "fire", fired, fds(ready), e)
		if who != api.Nobody {
			t.Errorf("%d waits", who)
		}
		f = fired
	}
	first, f, e := Arm(f, 0, 5)
	holds(t, "arm", f, fds(open), e)
	second, f, e := Arm(f, 0, 6)
	holds(t, "arm", f, fds(by(6)), e)
	if !first || second {
		t.Errorf("%t and %t", first, second)
	}
	who, f, e := Fire(f, 0)
	holds(t, "fire", f, fds(open), e)
	if who != 6 {
		t.Errorf("%d goes on", who)
	}
}

// TestEdgesAheadComeToOne fires so often ahead.
func TestEdgesAheadComeToOne(t *testing.T) {
	for edges := range 40 {
		f := fds(by(90), open, by(91))
		for range edges {
			_, f, _ = Fire(f, 1)
		}
		on := 0
		for id := range int64(3) {
			now, armed, e := Arm(f, 1, id)
			if e != api.OK {
				break
			}
			if now {
				on++
			}
			f = armed
		}
		if on != min(edges, 1) || !slices.Equal(f, fds(by(90), by(int64(on)), by(91))) {
			t.Errorf("%d edges: %d go on, and %v", edges, on, f)
		}
	}
}

// TestWhatIsShutIsGone opens one again: what came ahead, and who waited, is gone.
func TestWhatIsShutIsGone(t *testing.T) {
	for _, d := range fds(open, ready, by(4)) {
		f := fds(d, by(8))
		_, f, _ = Shut(f, 0)
		f, e := Open(f, 0)
		holds(t, "open", f, fds(open, by(8)), e)
		now, f, e := Arm(f, 0, 4)
		holds(t, "arm", f, fds(by(4), by(8)), e)
		if now {
			t.Errorf("%v: an edge that came ahead is still there", d)
		}
	}
}

// TestDroppedAndArmedAgain lets one wait for another one once it was dropped, and an edge come behind.
func TestDroppedAndArmedAgain(t *testing.T) {
	f := fds(by(4), open)
	f, e := Drop(f, 4)
	holds(t, "drop", f, fds(open, open), e)
	_, f, e = Arm(f, 1, 4)
	holds(t, "arm", f, fds(open, by(4)), e)
	who, f, e := Fire(f, 0)
	holds(t, "fire", f, fds(ready, by(4)), e)
	if who != api.Nobody {
		t.Errorf("%d goes on, which waits no more", who)
	}
}

// plain is a descriptor written otherwise than the program has it: a count of edges that are left, and who waits, in a list.
type plain struct {
	there bool
	left  int
	who   []int64
}

// fds are descriptors of plain ones.
func (p *plains) fds() []api.Fd {
	var f []api.Fd
	for _, d := range p.all {
		x := api.Fd{Open: d.there, Ready: d.left > 0, Who: -1}
		if len(d.who) > 0 {
			x.Who = d.who[0]
		}
		f = append(f, x)
	}
	return f
}

// plains are plain descriptors, how many edges came, and how many went on for one.
type plains struct {
	all       []plain
	edges, on []int
}

func (p *plains) waits(id int64) bool {
	return slices.ContainsFunc(p.all, func(d plain) bool { return slices.Contains(d.who, id) })
}

func (p *plains) open(i int) api.Errno {
	if p.all[i].there {
		return api.ErrThere
	}
	p.all[i].there = true
	return api.OK
}

func (p *plains) shut(i int) (int64, api.Errno) {
	d := p.all[i]
	if !d.there {
		return 0, api.ErrNone
	}
	p.all[i] = plain{}
	return append(d.who, -1)[0], api.OK
}

func (p *plains) arm(i int, id int64) (bool, api.Errno) {
	d := &p.all[i]
	switch {
	case !d.there:
		return false, api.ErrNone
	case p.waits(id):
		return false, api.ErrThere
	case len(d.who) > 0:
		return false, api.ErrFull
	case d.left > 0:
		d.left = 0
		p.on[i]++
		return true, api.OK
	}
	d.who = []int64{id}
	return false, api.OK
}

func (p *plains) fire(i int) (int64, api.Errno) {
	d := &p.all[i]
	if !d.there {
		return 0, api.ErrNone
	}
	p.edges[i]++
	if len(d.who) == 0 {
		d.left++
		return -1, api.OK
	}
	who := d.who[0]
	d.who = nil
	p.on[i]++
	return who, api.OK
}

func (p *plains) drop(id int64) api.Errno {
	if !p.waits(id) {
		return api.ErrNone
	}
	for i, d := range p.all {
		if slices.Contains(d.who, id) {
			p.all[i].who = nil
		}
	}
	return api.OK
}

// TestLongRun does very many things with descriptors, and holds them against plain ones.
func TestLongRun(t *testing.T) {
	for _, n := range []int{1, 2, 3, 16} {
		f, _ := New(n)
		p := &plains{all: make([]plain, n), edges: make([]int, n), on: make([]int, n)}
		draw := uint64(n)
		next := func(below int) int {
			draw = draw*6364136223846793005 + 1442695040888963407
			return int(draw>>33) % below
		}
		for step := range 40000 {
			i, id := next(n), int64(next(n+4))
			now, is, who, by, l, e, want := false, false, int64(0), int64(0), f, api.OK, api.OK
			switch next(12) {
			case 0, 1:
				l, e = Open(f, i)
				want = p.open(i)
			case 2:
				who, l, e = Shut(f, i)
				by, want = p.shut(i)
			case 3, 4, 5, 6:
				now, l, e = Arm(f, i, id)
				is, want = p.arm(i, id)
			case 7, 8, 9, 10:
				who, l, e = Fire(f, i)
				by, want = p.fire(i)
			default:
				l, e = Drop(f, id)
				want = p.drop(id)
			}
			if now != is || who != by || e != want || e != api.OK && len(l) != 0 {
				t.Fatalf("%d, step %d: %t, %d, error %d, and not %t, %d, error %d", n, step, now, who, e, is, by, want)
			}
			if e == api.OK {
				f = l
			}
			if waits, e := Waits(f); !slices.Equal(waits, ids(p.fds())) || !Same(f, p.fds()) || e != api.OK {
				t.Fatalf("%d, step %d: %v, error %d, and not %v", n, step, f, e, p.fds())
			}
			if p.on[i] > p.edges[i] {
				t.Fatalf("%d, step %d: %d went on by %d edges", n, step, p.on[i], p.edges[i])
			}
		}
	}
}

// TestAllWays does each way of a few things with two descriptors and two ids: no edge lets more than one go on.
func TestAllWays(t *testing.T) {
	var ways func(f []api.Fd, left, edges, on int)
	ways = func(f []api.Fd, left, edges, on int) {
		if on > edges || !mayBe(f) {
			t.Fatalf("%v: %d go on by %d edges", f, on, edges)
		}
		if left == 0 {
			return
		}
		for i := range f {
			if who, l, e := Fire(f, i); e == api.OK && who == api.Nobody {
				ways(l, left-1, edges+1, on)
			} else if e == api.OK {
				ways(l, left-1, edges+1, on+1)
			}
			for id := range int64(2) {
				if now, l, e := Arm(f, i, id); e == api.OK && now {
					ways(l, left-1, edges, on+1)
				} else if e == api.OK {
					ways(l, left-1, edges, on)
				}
			}
			if l, e := Open(f, i); e == api.OK {
				ways(l, left-1, edges, on)
			}
			if _, l, e := Shut(f, i); e == api.OK {
				ways(l, left-1, edges, on)
			}
		}
		for id := range int64(2) {
			if l, e := Drop(f, id); e == api.OK {
				ways(l, left-1, edges, on)
			}
		}
	}
	f, _ := New(2)
	ways(f, 6, 0, 0)
}
