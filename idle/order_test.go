package idle

import (
	"slices"
	"testing"

	"ravel/api"
)

// P17.5

// hall are workers written otherwise than the program has them: a set for each thing that one may be, and when each one that rests announced it.
type hall struct {
	n        int
	spins    map[int]bool
	parks    map[int]bool
	since    map[int]int
	moments  int
	told     []int
	answered []int
}

func hallOf(n int) *hall {
	return &hall{n: n, spins: map[int]bool{}, parks: map[int]bool{}, since: map[int]int{}, told: make([]int, n), answered: make([]int, n)}
}

// line are those that rest, by the moments at which they announced it.
func (h *hall) line() []int {
	var l []int
	for i := range h.n {
		if _, is := h.since[i]; is {
			l = append(l, i)
		}
	}
	slices.SortFunc(l, func(a, b int) int { return h.since[a] - h.since[b] })
	return l
}

func (h *hall) workers() api.Idle {
	is := make([]int, h.n)
	for i := range is {
		_, rests := h.since[i]
		switch {
		case h.spins[i]:
			is[i] = spinning
		case h.parks[i]:
			is[i] = parked
		case rests:
			is[i] = announced
		}
	}
	return api.Idle{Is: is, Stack: h.line()}
}

func (h *hall) has(i int) bool { return i >= 0 && i < h.n }

func (h *hall) rests(i int) bool {
	_, is := h.since[i]
	return is
}

// few tells whether so many spin beside so many that are parked as may.
func (h *hall) few(spins, parks int) bool { return 2*spins-1 <= h.n-parks }

func (h *hall) spin(i int) (bool, api.Errno) {
	switch {
	case !h.has(i):
		return false, api.ErrArg
	case h.spins[i] || h.rests(i):
		return false, api.ErrState
	case !h.few(len(h.spins)+1, len(h.parks)):
		return false, api.OK
	}
	h.spins[i] = true
	return true, api.OK
}

func (h *hall) found(i int) api.Errno {
	switch {
	case !h.has(i):
		return api.ErrArg
	case h.parks[i]:
		return api.ErrState
	}
	if h.rests(i) {
		h.answered[i]++
	}
	delete(h.spins, i)
	delete(h.since, i)
	return api.OK
}

func (h *hall) announce(i int) api.Errno {
	switch {
	case !h.has(i):
		return api.ErrArg
	case h.rests(i):
		return api.ErrState
	}
	delete(h.spins, i)
	h.moments++
	h.since[i] = h.moments
	h.told[i]++
	return api.OK
}

func (h *hall) park(i int) api.Errno {
	switch {
	case !h.has(i):
		return api.ErrArg
	case !h.rests(i) || h.parks[i] || !h.few(len(h.spins), len(h.parks)+1):
		return api.ErrState
	}
	h.parks[i] = true
	return api.OK
}

func (h *hall) wake() (int, api.Errno) {
	l := h.line()
	if len(l) == 0 {
		return 0, api.ErrNone
	}
	last := l[len(l)-1]
	delete(h.parks, last)
	delete(h.since, last)
	h.answered[last]++
	return last, api.OK
}

// inStep holds workers against a hall, and that each one that rests has announced it once more than it was waked, or found something, and each other one just as often.
func inStep(t *testing.T, d api.Idle, h *hall) {
	t.Helper()
	if !Same(d, h.workers()) || Check(d) != api.OK || !mayBe(d) {
		t.Fatalf("%v, and not %v", d, h.workers())
	}
	for i := range h.n {
		owed := 0
		if h.rests(i) {
			owed = 1
		}
		if h.told[i] != h.answered[i]+owed {
			t.Fatalf("%v: %d announced %d times, and was answered %d times", d, i, h.told[i], h.answered[i])
		}
	}
	counts := []int{h.n - len(h.spins) - len(h.since), len(h.spins), len(h.since) - len(h.parks), len(h.parks)}
	for what, want := range counts {
		if n, e := Count(d, what); n != want || e != api.OK {
			t.Fatalf("%v: %d are %d, error %d", d, n, what, e)
		}
	}
}

// does does one thing with workers, and with a hall, and tells the workers then, if it was not refused.
func does(t *testing.T, d api.Idle, h *hall, what, i int) api.Idle {
	t.Helper()
	var next api.Idle
	var e, want api.Errno
	n, wantN := 0, 0
	yes, wantYes := false, false
	switch what {
	case 0:
		yes, next, e = Spin(d, i)
		wantYes, want = h.spin(i)
	case 1:
		next, e = Found(d, i)
		want = h.found(i)
	case 2:
		next, e = Announce(d, i)
		want = h.announce(i)
	case 3:
		next, e = Park(d, i)
		want = h.park(i)
	case 4:
		n, next, e = Wake(d)
		wantN, want = h.wake()
	}
	if e != want || n != wantN || yes != wantYes || e != api.OK && (len(next.Is) != 0 || len(next.Stack) != 0) {
		t.Fatalf("%d with %d of %v: %d, %t, %v, error %d, and not %d, %t, error %d", what, i, d, n, yes, next, e, wantN, wantYes, want)
	}
	if e == api.OK {
		d = next
	}
	inStep(t, d, h)
	return d
}

// TestLongRun does very many things with workers, and holds them against a hall. In some runs more rest than are waked, so that all do, in others fewer.
func TestLongRun(t *testing.T) {
	for _, n := range []int{1, 2, 3, 4, 7, 16, 33, 63, 64} {
		for at, often := range [][5]int{{1, 1, 1, 1, 1}, {4, 1, 2, 2, 1}, {1, 1, 6, 6, 1}, {2, 4, 2, 1, 1}, {3, 0, 3, 3, 2}, {9, 1, 2, 9, 0}} {
			draw := uint64(1000*n + at)
			next := func(below int) int {
				draw = draw*6364136223846793005 + 1442695040888963407
				return int(draw>>20) % below
			}
			d, _ := New(n)
			h := hallOf(n)
			inStep(t, d, h)
			var ways []int
			for what, times := range often {
				ways = append(ways, slices.Repeat([]int{what}, times)...)
			}
			for range 1500 {
				d = does(t, d, h, ways[next(len(ways))], next(n+2)-1)
			}
		}
	}
}

// TestAllWays does each way of a few things with two workers, and with three.
func TestAllWays(t *testing.T) {
	for _, x := range []struct{ n, long int }{{1, 6}, {2, 5}, {3, 4}} {
		for _, way := range lists(x.long, 0, 4*x.n) {
			d, _ := New(x.n)
			h := hallOf(x.n)
			for _, step := range way {
				if step == 4*x.n {
					d = does(t, d, h, 4, 0)
				} else {
					d = does(t, d, h, step/x.n, step%x.n)
				}
			}
		}
	}
}

// TestAllThatMayBeAreMet goes all ways from new workers on: just those that may be are met, and no others.
func TestAllThatMayBeAreMet(t *testing.T) {
	for n := 1; n <= 4; n++ {
		want := 0
		for _, d := range small() {
			if len(d.Is) == n {
				want++
			}
		}
		first, _ := New(n)
		met, open := []api.Idle{first}, []api.Idle{first}
		for len(open) > 0 {
			d := open[0]
			open = open[1:]
			for _, next := range behind(t, d) {
				if !slices.ContainsFunc(met, func(x api.Idle) bool { return Same(x, next) }) {
					met, open = append(met, next), append(open, next)
				}
			}
		}
		for _, d := range met {
			if !mayBe(d) {
				t.Errorf("%v is met", d)
			}
		}
		if len(met) != want {
			t.Errorf("of %d workers %d are met, and not %d", n, len(met), want)
		}
	}
}

// behind are all that workers may come to by one thing.
func behind(t *testing.T, d api.Idle) []api.Idle {
	t.Helper()
	var l []api.Idle
	for i := range d.Is {
		for _, change := range changes() {
			if _, next, e := change(d, i); e == api.OK {
				l = append(l, next)
			}
		}
	}
	if _, next, e := Wake(d); e == api.OK {
		l = append(l, next)
	}
	return l
}

// TestWakedInTurn lets all rest, in some order, some of them parked, and wakes all: the last one that announced comes first, and each one comes once.
func TestWakedInTurn(t *testing.T) {
	for n := 1; n <= mostWorkers; n++ {
		for _, by := range []int{1, 3, 5, 7} {
			d, _ := New(n)
			var order []int
			for at := 0; len(order) < n; at = (at + by) % n {
				for slices.Contains(order, at) {
					at = (at + 1) % n
				}
				order = append(order, at)
			}
			for i, who := range order {
				d, _ = Announce(d, who)
				if i%3 != 1 {
					d, _ = Park(d, who)
				}
			}
			slices.Reverse(order)
			for _, want := range order {
				i, next, e := Wake(d)
				if i != want || e != api.OK || next.Is[i] != awake || slices.Contains(next.Stack, i) {
					t.Fatalf("%v: %d is waked, and not %d, error %d", d, i, want, e)
				}
				d = next
			}
			if _, none, e := Wake(d); e != api.ErrNone {
				t.Fatalf("%v: %v, error %d", d, none, e)
			}
		}
	}
}

// TestFoundIsNotWaked holds that one who announced, and found something, is not waked behind that, and may announce it again, then as the last one.
func TestFoundIsNotWaked(t *testing.T) {
	d, _ := New(3)
	for i := range 3 {
		d, _ = Announce(d, i)
	}
	d, e := Found(d, 1)
	holds(t, "found", d, of([]int{2, 0, 2}, 0, 2), e)
	i, waked, e := Wake(d)
	holds(t, "wake", waked, of([]int{2, 0, 0}, 0), e)
	if i != 2 {
		t.Errorf("%d is waked", i)
	}
	d, e = Announce(d, 1)
	holds(t, "announced again", d, of([]int{2, 2, 2}, 0, 2, 1), e)
	if i, _, _ := Wake(d); i != 1 {
		t.Errorf("%d is waked", i)
	}
}
