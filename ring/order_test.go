package ring

import (
	"slices"
	"testing"

	"ravel/api"
)

// P7.4

// TestOneByOneItIsAList goes far, round the ring many times, and holds it against a plain list.
func TestOneByOneItIsAList(t *testing.T) {
	for _, x := range []struct {
		cells, base, cap int
		from             int64
	}{{3, 0, 1, 0}, {9, 3, 1, most - 700}, {4, 0, 2, 0}, {9, 2, 3, 0}, {9, 0, 7, 5}, {40, 1, 16, most - 2000}, {1026, 0, 1024, 0}, {1100, 50, 1024, 77777}} {
		q := api.Deque{Base: x.base, Cap: x.cap}
		m := make(api.Mem, x.cells)
		m[q.Base], m[q.Base+1] = x.from, x.from
		var want []int64
		seed, many := uint32(x.cap), 600
		if x.cap > 100 {
			many = 3 * x.cap
		}
		for i := range many {
			seed = seed*1664525 + 1013904223
			kind := int(seed>>9)%3 + 1
			if i/(many/3) == 1 { // it gets full once, and empty behind that
				kind = api.PushH
			}
			h, _ := Start(kind, int64(i+1))
			then, h, e := Solo(m, q, h)
			if e != api.OK {
				t.Fatalf("%v: error %d", q, e)
			}
			m = then
			want = hold(t, q, h, want, int64(i+1))
			if l, e := List(m, q); !slices.Equal(l, want) || e != api.OK || t.Failed() {
				t.Fatalf("%v: %v, error %d, and not %v", q, l, e, want)
			}
		}
		for i, n := range m {
			if (i < q.Base || i > q.Base+1+q.Cap) && n != 0 {
				t.Errorf("%v: cell %d is %d", q, i, n)
			}
		}
	}
}

// hold holds that a hand has ended as it does on a plain list, and tells that one behind it.
func hold(t *testing.T, q api.Deque, h api.Hand, l []int64, v int64) []int64 {
	t.Helper()
	state, got, then := api.Done, v, l
	switch {
	case h.Kind == api.PushH && len(l) == q.Cap:
		state = api.Full
	case h.Kind == api.PushH:
		then = append(slices.Clone(l), v)
	case len(l) == 0:
		state = api.Empty
	case h.Kind == api.PopH:
		got, then = l[len(l)-1], l[:len(l)-1]
	default:
		got, then = l[0], l[1:]
	}
	if h.State != state || h.V != got {
		t.Errorf("%v of %v, and not %d, %d", h, l, state, got)
	}
	return then
}

const thieves = 2

// scene is how far an owner, and two that steal, are: the cells, how much of what the owner is to do has begun, and of what each one is to steal, their hands, and which numbers were pushed, and taken.
type scene struct {
	cells  [6]int64
	begun  int
	stolen [thieves]int
	hands  [thieves + 1]api.Hand
	pushed uint64
	taken  uint64
}

// play goes through all scenes that may follow.
type play struct {
	t      *testing.T
	q      api.Deque
	plan   []int
	steals int
	met    map[scene]struct{}
	ends   map[int]int
}

// begin is the scene where somebody has begun with the next thing (the owner is nobody 0); false, if there is none.
func (p *play) begin(s scene, who int) (scene, bool) {
	kind := api.StealH
	if who == 0 {
		if s.begun == len(p.plan) {
			return s, false
		}
		kind = p.plan[s.begun]
		s.begun++
	} else {
		if s.stolen[who-1] == p.steals {
			return s, false
		}
		s.stolen[who-1]++
	}
	v := int64(0)
	if kind == api.PushH {
		v = int64(s.begun)
	}
	h, e := Start(kind, v)
	if e != api.OK {
		p.t.Fatalf("error %d", e)
	}
	s.hands[who] = h
	return s, true
}

// step is the scene behind somebody's next access.
func (p *play) step(s scene, who int) (scene, bool) {
	if h := s.hands[who]; h.Kind == 0 || h.State != api.Going {
		next, any := p.begin(s, who)
		if !any {
			return s, false
		}
		s = next
	}
	m, h, e := Step(s.cells[:], p.q, s.hands[who])
	if e != api.OK {
		p.t.Fatalf("%v: error %d", s, e)
	}
	was := s.cells
	copy(s.cells[:], m)
	s.hands[who] = h
	bit := uint64(1) << h.V
	switch {
	case h.State == api.Done && h.Kind == api.PushH:
		s.pushed |= bit
	case h.State == api.Done:
		if s.taken&bit != 0 || s.pushed&bit == 0 {
			p.t.Fatalf("%d is taken twice, or was not pushed: %v", h.V, s)
		}
		s.taken |= bit
	case h.State == api.Lost && was[p.q.Base] == h.T:
		p.t.Fatalf("nobody was faster: %v", s)
	}
	if h.State != api.Going {
		p.ends[8*h.Kind+h.State]++
	}
	return s, true
}

// all goes on from a scene, whoever comes next.
func (p *play) all(s scene) {
	if _, is := p.met[s]; is {
		return
	}
	p.met[s] = struct{}{}
	if h := s.hands[0]; h.Kind == 0 || h.State != api.Going {
		p.rest(s)
	}
	for who := range thieves + 1 {
		if next, any := p.step(s, who); any {
			p.all(next)
		}
	}
}

// rest holds, where the owner does nothing, that what was pushed and is not taken is there, in order.
func (p *play) rest(s scene) {
	var want []int64
	for v := int64(1); v <= int64(len(p.plan)); v++ {
		if (s.pushed&^s.taken)>>v&1 == 1 {
			want = append(want, v)
		}
	}
	if l, e := List(s.cells[:], p.q); !slices.Equal(l, want) || e != api.OK || s.taken&^s.pushed != 0 {
		p.t.Fatalf("%v, error %d, and not %v: %v", l, e, want, s)
	}
}

// TestWhateverTheOrder goes through every order in which accesses of an owner, and of two that steal, may come.
func TestWhateverTheOrder(t *testing.T) {
	const u, o = api.PushH, api.PopH
	all := map[int]int{}
	for _, x := range []struct {
		q      api.Deque
		from   int64
		steals int
		plan   []int
	}{
		{api.Deque{Base: 0, Cap: 1}, 0, 2, []int{u, o, u, o, u, u, o}},
		{api.Deque{Base: 1, Cap: 2}, 0, 2, []int{u, u, o, u, o, o, o}},
		{api.Deque{Base: 1, Cap: 2}, 3, 2, []int{o, u, u, u, o, u, o}},
		{api.Deque{Base: 2, Cap: 2}, most - 9, 3, []int{u, o, u, u, u}},
		{api.Deque{Base: 0, Cap: 3}, 0, 1, []int{u, u, u, o, o, u, u, u, o, o, o}},
		{api.Deque{Base: 0, Cap: 4}, 7, 2, []int{u, u, u, u, o, o, o, o}},
	} {
		p := &play{t: t, q: x.q, plan: x.plan, steals: x.steals, met: map[scene]struct{}{}, ends: map[int]int{}}
		var s scene
		s.cells[x.q.Base], s.cells[x.q.Base+1] = x.from, x.from
		p.all(s)
		for k, n := range p.ends {
			all[k] += n
		}
		t.Logf("%v: %d scenes", x.q, len(p.met))
	}
	for _, k := range []int{8*u + api.Done, 8*u + api.Full, 8*o + api.Done, 8*o + api.Empty, 8*api.StealH + api.Done, 8*api.StealH + api.Empty, 8*api.StealH + api.Lost} {
		if all[k] == 0 {
			t.Errorf("none has ended as %d", k)
		}
	}
}

// TestManyWhateverTheOrder goes far, with many that steal, in some orders.
func TestManyWhateverTheOrder(t *testing.T) {
	for _, x := range []struct{ cap, thieves int }{{1, 3}, {2, 7}, {5, 1}, {8, 12}, {64, 5}} {
		q := api.Deque{Base: 1, Cap: x.cap}
		m := make(api.Mem, x.cap+4)
		hands := make([]api.Hand, x.thieves+1)
		pushed, taken := 0, map[int64]int{}
		seed := uint32(x.cap)
		for i := range 20000 {
			seed = seed*1664525 + 1013904223
			who := int(seed>>8) % len(hands)
			if h := hands[who]; h.Kind == 0 || h.State != api.Going {
				if i > 19000 { // all come to an end
					continue
				}
				kind := api.StealH
				if who == 0 {
					kind = api.PushH + int(seed>>20)%5/3
				}
				hands[who], _ = Start(kind, int64(i+1))
			}
			after, h, e := Step(m, q, hands[who])
			if e != api.OK {
				t.Fatalf("%v: error %d", h, e)
			}
			m, hands[who] = after, h
			if h.State != api.Done {
				continue
			}
			if h.Kind == api.PushH {
				pushed++
				taken[h.V] = 0
			} else if n, is := taken[h.V]; !is || n > 0 {
				t.Fatalf("%d is taken, which was not pushed, or is taken already", h.V)
			} else {
				taken[h.V]++
			}
		}
		l, e := List(m, q)
		for _, v := range l {
			if taken[v]++; taken[v] > 1 {
				t.Errorf("%d is there, which is taken", v)
			}
		}
		for v, n := range taken {
			if n != 1 {
				t.Errorf("%d is nowhere", v)
			}
		}
		if !slices.IsSorted(l) || e != api.OK || pushed < 100 {
			t.Errorf("%v, error %d, of %d pushed", l, e, pushed)
		}
	}
}
