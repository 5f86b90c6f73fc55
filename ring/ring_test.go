package ring

import (
	"math"
	"slices"
	"testing"

	"ravel/api"
)

const most = api.MaxCount

// in are cells with a deque at 1 of 3 slots, and a cell ahead of it and behind it.
func in(top, bottom, a, b, c int64) api.Mem { return api.Mem{-9, top, bottom, a, b, c, -8} }

var three = api.Deque{Base: 1, Cap: 3}

// last tells of each kind its last Pc.
var last = map[int]int{api.PushH: 3, api.PopH: 6, api.StealH: 3}

// zero holds that there is an error, and all else is zero beside it.
func zero(t *testing.T, name string, m api.Mem, h api.Hand, e, want api.Errno) {
	t.Helper()
	if len(m) != 0 || h != (api.Hand{}) || e != want {
		t.Errorf("%s: %v, %v, error %d, and not error %d", name, m, h, e, want)
	}
}

// badDeques are deques that may not be, in their cells.
func badDeques() []struct {
	m api.Mem
	q api.Deque
} {
	all := []struct {
		m api.Mem
		q api.Deque
	}{
		{nil, api.Deque{}}, {nil, api.Deque{Cap: 1}}, {make(api.Mem, 2), api.Deque{Cap: 1}}, {make(api.Mem, 3), api.Deque{Base: 1, Cap: 1}}, {make(api.Mem, 3), api.Deque{Cap: 2}},
		{make(api.Mem, 1025), api.Deque{Cap: 1024}}, {make(api.Mem, 2000), api.Deque{Cap: 1025}}, {make(api.Mem, 65536), api.Deque{Base: 64511, Cap: 1024}},
		{make(api.Mem, 65537), api.Deque{Cap: 1}}, {make(api.Mem, 65537), api.Deque{Base: 65534, Cap: 1}}, {make(api.Mem, 65540), three},
	}
	for _, n := range []int{math.MinInt, math.MinInt + 1, -2, -1} {
		all = append(all, badDeque(n, 3), badDeque(1, n))
	}
	for _, n := range []int{3, 4, 7, math.MaxInt - 4, math.MaxInt - 1, math.MaxInt} {
		all = append(all, badDeque(n, 3), badDeque(0, n+3))
	}
	return append(all, badDeque(1, 0), badDeque(math.MaxInt, math.MaxInt), badDeque(math.MinInt, math.MinInt), badDeque(math.MinInt, math.MaxInt))
}

func badDeque(base, cap int) struct {
	m api.Mem
	q api.Deque
} {
	return struct {
		m api.Mem
		q api.Deque
	}{make(api.Mem, 7), api.Deque{Base: base, Cap: cap}}
}

// badHands are hands that may not be.
func badHands() []api.Hand {
	all := []api.Hand{{}, {Kind: 4}, {Kind: -1}, {Kind: math.MinInt}, {Kind: math.MaxInt}, {Pc: 1}, {Kind: 0, Pc: 6}, {Kind: 4, Pc: 3}}
	for kind, pc := range last {
		for _, n := range []int{math.MinInt, -1, pc + 1, 7, math.MaxInt} {
			all = append(all, api.Hand{Kind: kind, Pc: n})
		}
		for pc := range pc + 1 {
			for _, n := range []int64{math.MinInt64, -2, most + 1, math.MaxInt64} {
				all = append(all, api.Hand{Kind: kind, Pc: pc, T: n}, api.Hand{Kind: kind, Pc: pc, B: n})
			}
			for _, n := range []int{math.MinInt, -1, 5, math.MaxInt} {
				all = append(all, api.Hand{Kind: kind, Pc: pc, State: n})
			}
		}
	}
	return all
}

// P7.1

func TestCheck(t *testing.T) {
	for i, x := range []struct{ cells, base, cap int }{{3, 0, 1}, {4, 0, 1}, {4, 1, 1}, {4, 0, 2}, {7, 1, 3}, {7, 2, 3}, {7, 0, 5}, {1026, 0, 1024}, {65536, 0, 1024}, {65536, 64510, 1024}, {65536, 65533, 1}} {
		if e := Check(make(api.Mem, x.cells), api.Deque{Base: x.base, Cap: x.cap}); e != api.OK {
			t.Errorf("%d: error %d", i, e)
		}
	}
	for _, x := range badDeques() {
		if e := Check(x.m, x.q); e != api.ErrArg {
			t.Errorf("%v of %d cells: error %d", x.q, len(x.m), e)
		}
	}
	// What is in the cells plays no part.
	if e := Check(api.Mem{-5, math.MaxInt64, 3}, api.Deque{Cap: 1}); e != api.OK {
		t.Errorf("error %d", e)
	}
}

func TestStart(t *testing.T) {
	for _, v := range []int64{0, 1, -1, 77, math.MinInt64, math.MaxInt64} {
		for kind := range last {
			if h, e := Start(kind, v); h != (api.Hand{Kind: kind, V: v}) || e != api.OK {
				t.Errorf("%d, %d: %v, error %d", kind, v, h, e)
			}
		}
		for _, kind := range []int{0, 4, -1, 5, math.MinInt, math.MaxInt} {
			h, e := Start(kind, v)
			zero(t, "no kind", nil, h, e, api.ErrArg)
		}
	}
}

// P7.2

// TestStep goes through the chapter's table, line by line.
func TestStep(t *testing.T) {
	for i, x := range []struct {
		h     api.Hand
		m     api.Mem
		then  api.Hand
		after api.Mem
	}{
		{api.Hand{Kind: 1, V: 5, T: 1, B: 2}, in(4, 6, 7, 8, 9), api.Hand{Kind: 1, Pc: 1, V: 5, T: 4, B: 2}, in(4, 6, 7, 8, 9)},
		{api.Hand{Kind: 1, Pc: 0, V: 5}, in(most, -7, 7, 8, 9), api.Hand{Kind: 1, Pc: 1, V: 5, T: most}, in(most, -7, 7, 8, 9)},
		{api.Hand{Kind: 1, Pc: 1, V: 5, T: 4}, in(4, 6, 7, 8, 9), api.Hand{Kind: 1, Pc: 2, V: 5, T: 4, B: 6}, in(4, 6, 7, 8, 9)},
		{api.Hand{Kind: 1, Pc: 1, V: 5, T: 4, B: 1}, in(-3, 7, 7, 8, 9), api.Hand{Kind: 1, Pc: 1, V: 5, T: 4, B: 7, State: api.Full}, in(-3, 7, 7, 8, 9)},
		{api.Hand{Kind: 1, Pc: 1, V: 5, T: -1}, in(0, 2, 7, 8, 9), api.Hand{Kind: 1, Pc: 1, V: 5, T: -1, B: 2, State: api.Full}, in(0, 2, 7, 8, 9)},
		{api.Hand{Kind: 1, Pc: 1, V: 5, T: -1}, in(0, 1, 7, 8, 9), api.Hand{Kind: 1, Pc: 2, V: 5, T: -1, B: 1}, in(0, 1, 7, 8, 9)},
		{api.Hand{Kind: 1, Pc: 1, V: 5, T: 0}, in(0, most, 7, 8, 9), api.Hand{Kind: 1, Pc: 1, V: 5, B: most, State: api.Full}, in(0, most, 7, 8, 9)},
		{api.Hand{Kind: 1, Pc: 1, V: 5, T: most}, in(0, 0, 7, 8, 9), api.Hand{Kind: 1, Pc: 2, V: 5, T: most}, in(0, 0, 7, 8, 9)},
		{api.Hand{Kind: 1, Pc: 2, V: 5, B: 0}, in(4, 6, 7, 8, 9), api.Hand{Kind: 1, Pc: 3, V: 5, B: 0}, in(4, 6, 5, 8, 9)},
		{api.Hand{Kind: 1, Pc: 2, V: 5, B: 7}, in(4, 6, 7, 8, 9), api.Hand{Kind: 1, Pc: 3, V: 5, B: 7}, in(4, 6, 7, 5, 9)},
		{api.Hand{Kind: 1, Pc: 2, V: -5, T: -1, B: 8}, in(-4, -6, 7, 8, 9), api.Hand{Kind: 1, Pc: 3, V: -5, T: -1, B: 8}, in(-4, -6, 7, 8, -5)},
		{api.Hand{Kind: 1, Pc: 2, V: 5, B: most}, in(4, 6, 7, 8, 9), api.Hand{Kind: 1, Pc: 3, V: 5, B: most}, in(4, 6, 7, 5, 9)},
		{api.Hand{Kind: 1, Pc: 3, V: 5, T: -1, B: 6}, in(4, -1, 7, 8, 9), api.Hand{Kind: 1, Pc: 3, V: 5, T: -1, B: 6, State: api.Done}, in(4, 7, 7, 8, 9)},
		{api.Hand{Kind: 1, Pc: 3, V: 5, B: most}, in(4, 6, 7, 8, 9), api.Hand{Kind: 1, Pc: 3, V: 5, B: most, State: api.Done}, in(4, most+1, 7, 8, 9)},

		{api.Hand{Kind: 2, V: 3, T: 1, B: 2}, in(-4, 6, 7, 8, 9), api.Hand{Kind: 2, Pc: 1, V: 3, T: 1, B: 6}, in(-4, 6, 7, 8, 9)},
		{api.Hand{Kind: 2, B: -1}, in(4, 0, 7, 8, 9), api.Hand{Kind: 2, Pc: 1}, in(4, 0, 7, 8, 9)},
		{api.Hand{Kind: 2, Pc: 1, T: -1, B: 6}, in(4, -6, 7, 8, 9), api.Hand{Kind: 2, Pc: 2, T: -1, B: 5}, in(4, 5, 7, 8, 9)},
		{api.Hand{Kind: 2, Pc: 1, B: 0}, in(4, 0, 7, 8, 9), api.Hand{Kind: 2, Pc: 2, B: -1}, in(4, -1, 7, 8, 9)},
		{api.Hand{Kind: 2, Pc: 1, B: most}, in(4, 0, 7, 8, 9), api.Hand{Kind: 2, Pc: 2, B: most - 1}, in(4, most-1, 7, 8, 9)},
		{api.Hand{Kind: 2, Pc: 2, B: 5}, in(6, 5, 7, 8, 9), api.Hand{Kind: 2, Pc: 3, T: 6, B: 5}, in(6, 5, 7, 8, 9)},
		{api.Hand{Kind: 2, Pc: 2, B: 5}, in(5, 5, 7, 8, 9), api.Hand{Kind: 2, Pc: 4, T: 5, B: 5}, in(5, 5, 7, 8, 9)},
		{api.Hand{Kind: 2, Pc: 2, T: -1, B: 5}, in(4, -5, 7, 8, 9), api.Hand{Kind: 2, Pc: 4, T: 4, B: 5}, in(4, -5, 7, 8, 9)},
		{api.Hand{Kind: 2, Pc: 2, B: -1}, in(0, -1, 7, 8, 9), api.Hand{Kind: 2, Pc: 3, B: -1}, in(0, -1, 7, 8, 9)},
		{api.Hand{Kind: 2, Pc: 3, V: 3, T: 6, B: -1}, in(7, 5, 7, 8, 9), api.Hand{Kind: 2, Pc: 3, V: 3, T: 6, B: -1, State: api.Empty}, in(7, 6, 7, 8, 9)},
		{api.Hand{Kind: 2, Pc: 3, T: 0, B: 4, Won: true}, in(0, -1, 7, 8, 9), api.Hand{Kind: 2, Pc: 3, B: 4, Won: true, State: api.Empty}, in(0, 0, 7, 8, 9)},
		{api.Hand{Kind: 2, Pc: 4, V: 3, T: 4, B: 5}, in(-4, -5, 7, 8, 9), api.Hand{Kind: 2, Pc: 4, V: 9, T: 4, B: 5, State: api.Done}, in(-4, -5, 7, 8, 9)},
		{api.Hand{Kind: 2, Pc: 4, T: -1, B: 0}, in(4, 5, 7, 8, 9), api.Hand{Kind: 2, Pc: 4, V: 7, T: -1, B: 0, State: api.Done}, in(4, 5, 7, 8, 9)},
		{api.Hand{Kind: 2, Pc: 4, T: 4, B: 4}, in(4, 4, 7, 8, 9), api.Hand{Kind: 2, Pc: 5, V: 8, T: 4, B: 4}, in(4, 4, 7, 8, 9)},
		{api.Hand{Kind: 2, Pc: 4, T: 5, B: 4}, in(4, 4, 7, math.MinInt64, 9), api.Hand{Kind: 2, Pc: 5, V: math.MinInt64, T: 5, B: 4}, in(4, 4, 7, math.MinInt64, 9)},
		{api.Hand{Kind: 2, Pc: 5, V: 8, T: 4, B: -1}, in(4, 9, 7, 8, 9), api.Hand{Kind: 2, Pc: 6, V: 8, T: 4, B: -1, Won: true}, in(5, 9, 7, 8, 9)},
		{api.Hand{Kind: 2, Pc: 5, V: 8, T: 4, B: 4, Won: true}, in(5, 4, 7, 8, 9), api.Hand{Kind: 2, Pc: 6, V: 8, T: 4, B: 4}, in(5, 4, 7, 8, 9)},
		{api.Hand{Kind: 2, Pc: 5, T: 0}, in(-1, 4, 7, 8, 9), api.Hand{Kind: 2, Pc: 6}, in(-1, 4, 7, 8, 9)},
		{api.Hand{Kind: 2, Pc: 5, T: most}, in(most, 4, 7, 8, 9), api.Hand{Kind: 2, Pc: 6, T: most, Won: true}, in(most+1, 4, 7, 8, 9)},
		{api.Hand{Kind: 2, Pc: 6, V: 8, T: 4, B: -1, Won: true}, in(-5, -4, 7, 8, 9), api.Hand{Kind: 2, Pc: 6, V: 8, T: 4, B: -1, Won: true, State: api.Done}, in(-5, 5, 7, 8, 9)},
		{api.Hand{Kind: 2, Pc: 6, V: 8, T: 4, B: 4}, in(5, 4, 7, 8, 9), api.Hand{Kind: 2, Pc: 6, V: 8, T: 4, B: 4, State: api.Empty}, in(5, 5, 7, 8, 9)},
		{api.Hand{Kind: 2, Pc: 6, T: most}, in(5, 4, 7, 8, 9), api.Hand{Kind: 2, Pc: 6, T: most, State: api.Empty}, in(5, most+1, 7, 8, 9)},

		{api.Hand{Kind: 3, V: 3, T: -1, B: -1}, in(4, -6, 7, 8, 9), api.Hand{Kind: 3, Pc: 1, V: 3, T: 4, B: -1}, in(4, -6, 7, 8, 9)},
		{api.Hand{Kind: 3, Pc: 1, T: 4}, in(-4, 5, 7, 8, 9), api.Hand{Kind: 3, Pc: 2, T: 4, B: 5}, in(-4, 5, 7, 8, 9)},
		{api.Hand{Kind: 3, Pc: 1, V: 3, T: 4, B: 8}, in(4, 4, 7, 8, 9), api.Hand{Kind: 3, Pc: 1, V: 3, T: 4, B: 4, State: api.Empty}, in(4, 4, 7, 8, 9)},
		{api.Hand{Kind: 3, Pc: 1, T: 0, B: 8}, in(0, -1, 7, 8, 9), api.Hand{Kind: 3, Pc: 1, B: -1, State: api.Empty}, in(0, -1, 7, 8, 9)},
		{api.Hand{Kind: 3, Pc: 1, T: -1, B: 8}, in(0, -1, 7, 8, 9), api.Hand{Kind: 3, Pc: 1, T: -1, B: -1, State: api.Empty}, in(0, -1, 7, 8, 9)},
		{api.Hand{Kind: 3, Pc: 1, T: -1, B: 8}, in(0, 0, 7, 8, 9), api.Hand{Kind: 3, Pc: 2, T: -1}, in(0, 0, 7, 8, 9)},
		{api.Hand{Kind: 3, Pc: 1, T: 2}, in(2, most, 7, 8, 9), api.Hand{Kind: 3, Pc: 2, T: 2, B: most}, in(2, most, 7, 8, 9)},
		{api.Hand{Kind: 3, Pc: 2, V: 3, T: 5, B: -1}, in(-4, -6, 7, 8, 9), api.Hand{Kind: 3, Pc: 3, V: 9, T: 5, B: -1}, in(-4, -6, 7, 8, 9)},
		{api.Hand{Kind: 3, Pc: 2, T: 0}, in(4, 6, math.MaxInt64, 8, 9), api.Hand{Kind: 3, Pc: 3, V: math.MaxInt64}, in(4, 6, math.MaxInt64, 8, 9)},
		{api.Hand{Kind: 3, Pc: 3, V: 9, T: 5, B: -1, Won: true}, in(5, -6, 7, 8, 9), api.Hand{Kind: 3, Pc: 3, V: 9, T: 5, B: -1, Won: true, State: api.Done}, in(6, -6, 7, 8, 9)},
		{api.Hand{Kind: 3, Pc: 3, V: 9, T: 5}, in(5, -6, 7, 8, 9), api.Hand{Kind: 3, Pc: 3, V: 9, T: 5, State: api.Done}, in(6, -6, 7, 8, 9)},
		{api.Hand{Kind: 3, Pc: 3, V: 9, T: 5, B: 6}, in(6, 6, 7, 8, 9), api.Hand{Kind: 3, Pc: 3, V: 9, T: 5, B: 6, State: api.Lost}, in(6, 6, 7, 8, 9)},
		{api.Hand{Kind: 3, Pc: 3, T: most}, in(most, 6, 7, 8, 9), api.Hand{Kind: 3, Pc: 3, T: most, State: api.Done}, in(most+1, 6, 7, 8, 9)},
		{api.Hand{Kind: 3, Pc: 3, T: 1}, in(-1, 6, 7, 8, 9), api.Hand{Kind: 3, Pc: 3, T: 1, State: api.Lost}, in(-1, 6, 7, 8, 9)},
	} {
		m, h, e := Step(x.m, three, x.h)
		if !slices.Equal(m, x.after) || h != x.then || e != api.OK {
			t.Errorf("%d: %v, %v: %v, %v, error %d, and not %v, %v", i, x.m, x.h, m, h, e, x.after, x.then)
		}
	}
}

// asks is which numbers an access asks for, by its kind and Pc: the cell at Base ("top"), the next one ("bottom", "below": -1 is enough), or the hand's own T, or B.
var asks = map[[2]int]string{
	{1, 0}: "top", {1, 1}: "bottom", {1, 2}: "B", {1, 3}: "B",
	{2, 0}: "bottom", {2, 1}: "B", {2, 2}: "top", {2, 3}: "T", {2, 4}: "B", {2, 5}: "T", {2, 6}: "T",
	{3, 0}: "top", {3, 1}: "below", {3, 2}: "T", {3, 3}: "T",
}

// refused tells whether an access asks for a number that is not as it is to be.
func refused(ask string, top, bottom, tt, b int64) bool {
	switch ask {
	case "top":
		return top < 0 || top > most
	case "bottom":
		return bottom < 0 || bottom > most
	case "below":
		return bottom < -1 || bottom > most
	case "T":
		return tt < 0
	}
	return b < 0
}

// TestStepOfWrongNumbers holds that just the numbers that an access asks for are looked at, and no others.
func TestStepOfWrongNumbers(t *testing.T) {
	cells := []int64{math.MinInt64, -2, -1, 0, 3, most - 1, most, most + 1, math.MaxInt64}
	for at, ask := range asks {
		for _, top := range cells {
			for _, bottom := range cells {
				for _, tt := range []int64{-1, 0, 3, most} {
					for _, b := range []int64{-1, 0, 3, most} {
						m, h, e := Step(in(top, bottom, 7, 8, 9), three, api.Hand{Kind: at[0], Pc: at[1], T: tt, B: b})
						if refused(ask, top, bottom, tt, b) {
							zero(t, ask, m, h, e, api.ErrState)
						} else if len(m) != 7 || h.Kind != at[0] || e != api.OK {
							t.Errorf("%v of %d, %d, %d, %d: %v, %v, error %d", at, top, bottom, tt, b, m, h, e)
						}
					}
				}
			}
		}
	}
}

// TestStepChangesOneCell holds it of deques of all kinds, at the edges of their cells.
func TestStepChangesOneCell(t *testing.T) {
	for _, x := range []struct{ cells, base, cap int }{{3, 0, 1}, {4, 1, 1}, {9, 2, 3}, {1026, 0, 1024}, {2000, 974, 1024}, {65536, 64510, 1024}, {65536, 65533, 1}} {
		q := api.Deque{Base: x.base, Cap: x.cap}
		m := make(api.Mem, x.cells)
		for at := range asks {
			for _, n := range []int64{0, 1, 1023, 1024, 1025, most} {
				slot := x.base + 2 + int(n%int64(x.cap))
				m[x.base], m[x.base+1], m[slot] = n, n, 44
				after, h, e := Step(m, q, api.Hand{Kind: at[0], Pc: at[1], V: 33, T: n, B: n})
				if e != api.OK || len(after) != len(m) {
					t.Fatalf("%v of %v, %d: %v, error %d", at, q, n, h, e)
				}
				var changed []int
				for i := range m {
					if m[i] != after[i] {
						changed = append(changed, i)
					}
				}
				want := map[[2]int][]int{{1, 2}: {slot}, {1, 3}: {x.base + 1}, {2, 1}: {x.base + 1}, {2, 5}: {x.base}, {2, 6}: {x.base + 1}, {3, 3}: {x.base}}[at]
				if !slices.Equal(changed, want) {
					t.Errorf("%v of %v, %d: cells %v changed, and not %v", at, q, n, changed, want)
				}
				if v := h.V; (at == [2]int{2, 4} || at == [2]int{3, 2}) && v != 44 || at[0] == 1 && v != 33 {
					t.Errorf("%v of %v, %d: it has %d", at, q, n, v)
				}
				m[slot] = 0
			}
		}
	}
}

// Wrong inputs.

func TestOfBadDequesAndHands(t *testing.T) {
	for _, x := range badDeques() {
		for _, h := range append(badHands(), someHands()...) {
			m, then, e := Step(x.m, x.q, h)
			zero(t, "step in a bad deque", m, then, e, api.ErrArg)
			m, then, e = Solo(x.m, x.q, h)
			zero(t, "solo in a bad deque", m, then, e, api.ErrArg)
		}
		l, e := List(x.m, x.q)
		zero(t, "list of a bad deque", l, api.Hand{}, e, api.ErrArg)
	}
	for _, bad := range badHands() {
		for state := range 5 {
			h := bad
			if h.State == api.Going {
				h.State = state
			}
			// Whether it has ended, and what the cells hold, comes behind that.
			for _, m := range []api.Mem{in(1, 2, 7, 8, 9), in(-1, -2, 7, 8, 9)} {
				after, then, e := Step(m, three, h)
				zero(t, "step of a bad hand", after, then, e, api.ErrArg)
				after, then, e = Solo(m, three, h)
				zero(t, "solo of a bad hand", after, then, e, api.ErrArg)
			}
		}
	}
}

// someHands are hands that may be, at all accesses, in all states.
func someHands() []api.Hand {
	var all []api.Hand
	for at := range asks {
		for state := range 5 {
			for _, n := range []int64{-1, 0, 1, most} {
				all = append(all, api.Hand{Kind: at[0], Pc: at[1], V: n + 6, T: n, B: 2, Won: n > 0, State: state}, api.Hand{Kind: at[0], Pc: at[1], T: 1, B: n, State: state})
			}
		}
	}
	return all
}

func TestStepOfWhatHasEnded(t *testing.T) {
	for _, h := range someHands() {
		if h.State == api.Going {
			continue
		}
		for _, m := range []api.Mem{in(1, 2, 7, 8, 9), in(-1, -2, 7, 8, 9)} {
			after, then, e := Step(m, three, h)
			zero(t, "step of what has ended", after, then, e, api.ErrState)
		}
	}
}

// P7.3

// TestSolo holds it against Step after Step, from whatever access on, of hands that have ended as well, in whatever cells.
func TestSolo(t *testing.T) {
	for _, h := range someHands() {
		for _, top := range []int64{-1, 0, 1, 2, 3, most, most + 1} {
			for _, bottom := range []int64{-1, 0, 1, 2, 3, 4, most, most + 1} {
				m, want, e := in(top, bottom, 7, 8, 9), h, api.OK
				steps := 0
				for e == api.OK && want.State == api.Going {
					m, want, e = Step(m, three, want)
					steps++
				}
				if steps > 7 {
					t.Fatalf("%v: %d steps", h, steps)
				}
				after, then, got := Solo(in(top, bottom, 7, 8, 9), three, h)
				if !slices.Equal(after, m) || then != want || got != e {
					t.Errorf("%v in %d, %d: %v, %v, error %d, and not %v, %v, error %d", h, top, bottom, after, then, got, m, want, e)
				}
			}
		}
	}
}

// TestSoloOfWhatHasEnded holds that there is no Step then, and so no error of one, whatever the cells hold, and that the cells are new all the same.
func TestSoloOfWhatHasEnded(t *testing.T) {
	for _, h := range someHands() {
		if h.State == api.Going {
			continue
		}
		for _, x := range []struct {
			m api.Mem
			q api.Deque
		}{
			{in(1, 2, 7, 8, 9), three}, {in(-1, -2, 7, 8, 9), three}, {in(math.MaxInt64, most+1, 7, 8, 9), three}, {in(3, 0, 7, 8, 9), three},
			{api.Mem{0, 0, 0}, api.Deque{Base: 0, Cap: 1}}, {api.Mem{5, math.MinInt64, -1, 4}, api.Deque{Base: 1, Cap: 1}}, {make(api.Mem, 1026), api.Deque{Base: 0, Cap: 1024}},
		} {
			before := slices.Clone(x.m)
			after, then, e := Solo(x.m, x.q, h)
			if !slices.Equal(after, before) || then != h || e != api.OK {
				t.Fatalf("%v, %v: %v, %v, error %d", x.q, h, after, then, e)
			}
			for i := range after {
				after[i]++
			}
			if !slices.Equal(x.m, before) {
				t.Errorf("%v, %v: what was handed in changed with what was told", x.q, h)
			}
		}
	}
}

// TestSoloAgain holds that what it told it tells once more, where that is handed in again.
func TestSoloAgain(t *testing.T) {
	for _, h := range someHands() {
		m, once, e := Solo(in(1, 3, 7, 8, 9), three, h)
		if e != api.OK {
			continue
		}
		again, twice, e := Solo(m, three, once)
		if !slices.Equal(again, m) || twice != once || e != api.OK {
			t.Errorf("%v: %v, %v, error %d, and not %v, %v", h, again, twice, e, m, once)
		}
	}
}

func TestSoloFromTheStart(t *testing.T) {
	for i, x := range []struct {
		kind  int
		m     api.Mem
		then  api.Hand
		after api.Mem
	}{
		{1, in(0, 0, 7, 8, 9), api.Hand{Kind: 1, Pc: 3, V: 5, State: api.Done}, in(0, 1, 5, 8, 9)},
		{1, in(4, 6, 7, 8, 9), api.Hand{Kind: 1, Pc: 3, V: 5, T: 4, B: 6, State: api.Done}, in(4, 7, 5, 8, 9)},
		{1, in(4, 7, 7, 8, 9), api.Hand{Kind: 1, Pc: 1, V: 5, T: 4, B: 7, State: api.Full}, in(4, 7, 7, 8, 9)},
		{1, in(most, most, 7, 8, 9), api.Hand{Kind: 1, Pc: 3, V: 5, T: most, B: most, State: api.Done}, in(most, most+1, 7, 5, 9)},
		{2, in(0, 0, 7, 8, 9), api.Hand{Kind: 2, Pc: 3, V: 5, B: -1, State: api.Empty}, in(0, 0, 7, 8, 9)},
		{2, in(4, 4, 7, 8, 9), api.Hand{Kind: 2, Pc: 3, V: 5, T: 4, B: 3, State: api.Empty}, in(4, 4, 7, 8, 9)},
		{2, in(4, 5, 7, 8, 9), api.Hand{Kind: 2, Pc: 6, V: 8, T: 4, B: 4, Won: true, State: api.Done}, in(5, 5, 7, 8, 9)},
		{2, in(4, 6, 7, 8, 9), api.Hand{Kind: 2, Pc: 4, V: 9, T: 4, B: 5, State: api.Done}, in(4, 5, 7, 8, 9)},
		{2, in(4, 7, 7, 8, 9), api.Hand{Kind: 2, Pc: 4, V: 7, T: 4, B: 6, State: api.Done}, in(4, 6, 7, 8, 9)},
		{3, in(0, 0, 7, 8, 9), api.Hand{Kind: 3, Pc: 1, V: 5, State: api.Empty}, in(0, 0, 7, 8, 9)},
		{3, in(0, -1, 7, 8, 9), api.Hand{Kind: 3, Pc: 1, V: 5, B: -1, State: api.Empty}, in(0, -1, 7, 8, 9)},
		{3, in(4, 5, 7, 8, 9), api.Hand{Kind: 3, Pc: 3, V: 8, T: 4, B: 5, State: api.Done}, in(5, 5, 7, 8, 9)},
		{3, in(5, 8, 7, 8, 9), api.Hand{Kind: 3, Pc: 3, V: 9, T: 5, B: 8, State: api.Done}, in(6, 8, 7, 8, 9)},
	} {
		h, _ := Start(x.kind, 5)
		m, then, e := Solo(x.m, three, h)
		if !slices.Equal(m, x.after) || then != x.then || e != api.OK {
			t.Errorf("%d: %v, %v, error %d, and not %v, %v", i, m, then, e, x.after, x.then)
		}
	}
	for _, x := range []struct {
		kind int
		m    api.Mem
	}{{1, in(-1, 0, 7, 8, 9)}, {1, in(0, -1, 7, 8, 9)}, {1, in(0, most+1, 7, 8, 9)}, {1, in(most+1, most, 7, 8, 9)}, {2, in(0, -1, 7, 8, 9)}, {2, in(-1, 0, 7, 8, 9)}, {2, in(most+1, 3, 7, 8, 9)}, {2, in(0, most+1, 7, 8, 9)}, {3, in(-1, 0, 7, 8, 9)}, {3, in(0, -2, 7, 8, 9)}, {3, in(0, most+1, 7, 8, 9)}, {3, in(most+1, 0, 7, 8, 9)}} {
		h, _ := Start(x.kind, 5)
		m, then, e := Solo(x.m, three, h)
		zero(t, "solo of no count", m, then, e, api.ErrState)
	}
}

func TestList(t *testing.T) {
	for i, x := range []struct {
		m    api.Mem
		want []int64
	}{
		{in(0, 0, 7, 8, 9), nil}, {in(0, 1, 7, 8, 9), []int64{7}}, {in(0, 2, 7, 8, 9), []int64{7, 8}}, {in(0, 3, 7, 8, 9), []int64{7, 8, 9}},
		{in(1, 1, 7, 8, 9), nil}, {in(1, 3, 7, 8, 9), []int64{8, 9}}, {in(1, 4, 7, 8, 9), []int64{8, 9, 7}}, {in(2, 4, 7, 8, 9), []int64{9, 7}}, {in(5, 8, 7, 8, 9), []int64{9, 7, 8}},
		{in(most, most, 7, 8, 9), nil}, {in(most-1, most, 7, 8, 9), []int64{7}}, {in(most-3, most, 7, 8, 9), []int64{8, 9, 7}}, {in(0, 2, math.MinInt64, -1, 9), []int64{math.MinInt64, -1}},
	} {
		if l, e := List(x.m, three); !slices.Equal(l, x.want) || e != api.OK {
			t.Errorf("%d: %v, error %d, and not %v", i, l, e, x.want)
		}
	}
	for _, x := range [][2]int64{{-1, 0}, {-1, -1}, {0, -1}, {1, 0}, {0, 4}, {1, 5}, {most, 0}, {0, most}, {most, most + 1}, {most + 1, most + 1}, {most + 1, most}, {most - 3, most + 1}, {most - 4, most}, {math.MinInt64, math.MaxInt64}, {math.MaxInt64, math.MinInt64}, {math.MinInt64, math.MinInt64}, {math.MaxInt64, math.MaxInt64}, {math.MinInt64, 0}, {0, math.MinInt64}} {
		l, e := List(in(x[0], x[1], 7, 8, 9), three)
		zero(t, "list of no counts", l, api.Hand{}, e, api.ErrState)
	}
	m, q := make(api.Mem, 65536), api.Deque{Base: 64510, Cap: 1024}
	m[q.Base], m[q.Base+1] = 1000, 2024
	var want []int64
	for n := range 1024 {
		m[q.Base+2+n] = int64(n)
		want = append(want, int64((1000+n)%1024))
	}
	if l, e := List(m, q); !slices.Equal(l, want) || e != api.OK {
		t.Errorf("%v, error %d", l, e)
	}
}

// TestWhoseIsWhat holds that what is handed in stays as it is, and that what is told is new, of loads, and of no Step at all, as well.
func TestWhoseIsWhat(t *testing.T) {
	for _, h := range someHands() {
		for name, call := range map[string]func(api.Mem) []int64{
			"step": func(m api.Mem) []int64 { m, _, _ = Step(m, three, h); return m },
			"solo": func(m api.Mem) []int64 { m, _, _ = Solo(m, three, h); return m },
			"list": func(m api.Mem) []int64 { l, _ := List(m, three); return l },
		} {
			handed, before := in(1, 3, 7, 8, 9), in(1, 3, 7, 8, 9)
			told := call(handed)
			if !slices.Equal(handed, before) {
				t.Fatalf("%s, %v: changed to %v", name, h, handed)
			}
			kept := slices.Clone(told)
			for i := range handed {
				handed[i] += 50
			}
			if !slices.Equal(told, kept) {
				t.Errorf("%s, %v: what was told changed with what was handed in", name, h)
			}
		}
	}
}
