package heap

import (
	"math"
	"slices"
	"sort"
	"testing"

	"ravel/api"
)

// latest is the greatest time.
const latest = int64(api.MaxTime)

// noTimes are numbers that are no time.
var noTimes = []int64{math.MinInt64, -latest, -1, latest + 1, math.MaxInt64}

// timers are timers of the numbers two by two: At, and Id.
func timers(l ...int64) []api.Timer {
	var h []api.Timer
	for i := 0; i < len(l); i += 2 {
		h = append(h, api.Timer{At: l[i], Id: l[i+1]})
	}
	return h
}

// many are so many timers of a time, in order of their Ids.
func many(n int, at int64) []api.Timer {
	var h []api.Timer
	for id := range n {
		h = append(h, api.Timer{At: at, Id: int64(id)})
	}
	return h
}

// climbing are so many timers, each of which is due later than the one ahead, and is of a lesser Id.
func climbing(n int) []api.Timer {
	var h []api.Timer
	for i := range n {
		h = append(h, api.Timer{At: int64(3 * i), Id: int64(2 * (n - i))})
	}
	return h
}

// good are heaps that may be, at all edges.
func good() [][]api.Timer {
	return [][]api.Timer{
		nil, {}, timers(0, 0), timers(latest, math.MaxInt64), timers(latest, 0), timers(0, math.MaxInt64), timers(5, 7),
		timers(1, 1, 2, 2), timers(1, 2, 2, 1), timers(1, 1, 1, 2), timers(3, 6, 9, 5), timers(0, 0, latest, math.MaxInt64),
		timers(1, 0, 5, 1, 2, 2, 3, 3, 4, 4), timers(1, 0, 5, 1, 4, 2, 3, 3, 2, 4), timers(1, 0, 2, 1, 5, 2, 5, 3, 5, 4, 2, 5),
		// The last one stands below another one than the fifth one does, and comes ahead of that one.
		timers(1, 0, 50, 1, 2, 2, 60, 3, 70, 4, 51, 5, 52, 6, 53, 7, 54, 8, 3, 9),
		timers(4, 10, 4, 50, 4, 20, 4, 60, 4, 70, 4, 51, 4, 52, 4, 53, 4, 54, 4, 30),
		many(5, 0), many(6, latest), many(21, 9), many(22, 9), climbing(4), climbing(85), climbing(86),
		climbing(255), climbing(256), many(256, 0), many(256, latest),
	}
}

// bad are heaps that may not be.
func bad() [][]api.Timer {
	last := func(h []api.Timer, at, id int64) []api.Timer {
		h[len(h)-1] = api.Timer{At: at, Id: id}
		return h
	}
	return [][]api.Timer{
		// A time, or an Id, that may not be.
		timers(-1, 0), timers(latest+1, 0), timers(math.MinInt64, 0), timers(math.MaxInt64, 0), timers(0, -1), timers(0, math.MinInt64), timers(-1, -1),
		timers(1, 1, latest+1, 2), timers(-1, 1, 1, 2), timers(1, 1, 2, -1), timers(1, -1, 2, 1), timers(0, -1, 0, 0),
		last(many(256, 7), latest+1, 255), last(many(256, 7), 7, -1), last(many(256, 0), -1, 255),
		// Two of one Id.
		timers(1, 1, 1, 1), timers(1, 1, 2, 1), timers(0, 0, 5, 3, 4, 2, 6, 3), timers(0, 0, 1, 1, 2, 2, 3, 3, 4, 4, 5, 0), last(many(256, 7), 8, 0), last(many(256, 7), 9, 254),
		// Too many.
		many(257, 5), make([]api.Timer, 257), climbing(300), many(100000, 1),
		// One comes ahead of the one above, by its time, or by its Id.
		timers(2, 1, 1, 2), timers(1, 2, 1, 1), timers(1, 1, 0, 0), timers(5, 0, 6, 1, 7, 2, 8, 3, 4, 4), timers(5, 1, 6, 2, 7, 3, 8, 4, 5, 0),
		timers(1, 0, 5, 1, 2, 2, 3, 3, 4, 4, 4, 5), timers(1, 0, 5, 6, 2, 2, 3, 3, 4, 4, 5, 5), timers(1, 0, 5, 1, 2, 2, 3, 3, 4, 4, 6, 5, 6, 6, 6, 7, 4, 8),
		timers(1, 0, 1, 1, 5, 2, 1, 3, 1, 4, 1, 5, 1, 6, 1, 7, 1, 8, 4, 9),
		last(climbing(256), 188, 1), last(many(256, 7), 6, 255),
	}
}

func ids(h []api.Timer) []int64 {
	var l []int64
	for _, t := range h {
		l = append(l, t.Id)
	}
	return l
}

// comesAhead is the document's word for it, written otherwise than the program has it.
func comesAhead(a, b api.Timer) bool { return a.At < b.At || a.At == b.At && a.Id < b.Id }

// inOrder are timers by the document's order.
func inOrder(h []api.Timer) []api.Timer {
	l := slices.Clone(h)
	sort.Slice(l, func(i, j int) bool { return comesAhead(l[i], l[j]) })
	return l
}

// mayBe tells by the document's words, place by place, whether a heap may be.
func mayBe(h []api.Timer) bool {
	if len(h) > 256 {
		return false
	}
	l := ids(h)
	slices.Sort(l)
	if len(slices.Compact(l)) != len(h) {
		return false
	}
	for i, t := range h {
		if t.At < 0 || t.At > 1<<50 || t.Id < 0 {
			return false
		}
		for _, under := range []int{4*i + 1, 4*i + 2, 4*i + 3, 4*i + 4} {
			if under < len(h) && comesAhead(h[under], t) {
				return false
			}
		}
	}
	return true
}

// holds holds that a heap may be, and that it has just these timers, whatever their order is here.
func holds(t *testing.T, name string, h, want []api.Timer, e api.Errno) {
	t.Helper()
	if e != api.OK || !mayBe(h) || !slices.Equal(inOrder(h), inOrder(want)) {
		t.Errorf("%s: %v, error %d, and not %v", name, h, e, want)
	}
}

// zero holds that there is an error, and all else is zero beside it.
func zero(t *testing.T, name string, h []api.Timer, e, want api.Errno) {
	t.Helper()
	if len(h) != 0 || e != want {
		t.Errorf("%s: %v, error %d, and not error %d", name, h, e, want)
	}
}

// P8.1

func TestCheck(t *testing.T) {
	for i, h := range good() {
		if e := Check(h); e != api.OK || !mayBe(h) {
			t.Errorf("%d: error %d: %v", i, e, h)
		}
	}
	for i, h := range bad() {
		if e := Check(h); e != api.ErrArg || mayBe(h) {
			t.Errorf("%d: error %d: %v", i, e, h)
		}
	}
}

// orders goes through all orders of what is there from a place on.
func orders(h []api.Timer, at int, tell func([]api.Timer)) {
	if at == len(h) {
		tell(h)
		return
	}
	for i := at; i < len(h); i++ {
		h[at], h[i] = h[i], h[at]
		orders(h, at+1, tell)
		h[at], h[i] = h[i], h[at]
	}
}

// TestCheckAllOrders holds of all orders of few timers that just those may be where none comes ahead of the one above.
func TestCheckAllOrders(t *testing.T) {
	for n, may := range []int{1, 1, 1, 2, 6, 24, 60, 240, 1260} {
		for _, h := range [][]api.Timer{many(n, 4), climbing(n)} {
			count := 0
			orders(h, 0, func(l []api.Timer) {
				e := Check(l)
				if e == api.OK {
					count++
				}
				if (e == api.OK) != mayBe(l) {
					t.Fatalf("%v: error %d", l, e)
				}
			})
			if count != may {
				t.Errorf("%d timers: %d orders may be, and not %d", n, count, may)
			}
		}
	}
}

// TestCheckFarDown sets each place of a great heap ahead of each other one.
func TestCheckFarDown(t *testing.T) {
	h := climbing(256)
	for i := range h {
		for j := range i {
			was := h[i]
			h[i].At = h[j].At - 1
			want := api.OK
			if up := (i - 1) / 4; h[i].At < 0 || h[i].At < h[up].At {
				want = api.ErrArg
			}
			if e := Check(h); e != want {
				t.Fatalf("place %d ahead of %d: error %d, and not %d", i, j, e, want)
			}
			h[i] = was
		}
	}
}

func TestSorted(t *testing.T) {
	for i, h := range good() {
		if l, e := Sorted(h); !slices.Equal(l, inOrder(h)) || e != api.OK {
			t.Errorf("%d: %v, error %d", i, l, e)
		}
	}
	h := timers(1, 8, 9, 1, 3, 2, 9, 0, 1, 9)
	if l, e := Sorted(h); !slices.Equal(l, timers(1, 8, 1, 9, 3, 2, 9, 0, 9, 1)) || e != api.OK {
		t.Errorf("%v, error %d", l, e)
	}
	for _, h := range bad() {
		l, e := Sorted(h)
		zero(t, "bad heap", l, e, api.ErrArg)
	}
}

func TestSame(t *testing.T) {
	for i, x := range []struct {
		a, b []api.Timer
		is   bool
	}{
		{nil, []api.Timer{}, true},
		{nil, timers(0, 0), false},
		{timers(0, 0), timers(0, 0), true},
		{timers(0, 0), timers(0, 1), false},
		{timers(0, 0), timers(1, 0), false},
		{timers(1, 2), timers(2, 1), false},
		{timers(0, 0), timers(0, 0, 0, 1), false},
		{timers(0, 0, 1, 1, 2, 2), timers(0, 0, 2, 2, 1, 1), true},
		{timers(0, 0, 1, 1, 2, 2), timers(0, 0, 2, 1, 1, 2), false},
		{timers(0, 0, 1, 1, 2, 2), timers(0, 0, 1, 1, 2, 3), false},
		{timers(3, 1, 3, 2, 3, 3), timers(3, 1, 3, 3, 3, 2), true},
		{timers(3, 1, 3, 2, 3, 3), timers(3, 1, 3, 3, 3, 4), false},
		{many(256, 4), many(256, 4), true},
		{many(256, 4), many(255, 4), false},
		{many(256, 4), many(256, 5), false},
		{climbing(256), many(256, 4), false},
		// Those that may not be are the same, or not, as well.
		{timers(2, 1, 1, 2), timers(1, 2, 2, 1), true},
		{timers(-1, -1), timers(-1, -1), true},
		{timers(-1, -1), timers(-1, 1), false},
		{timers(0, 0, 0, 0), timers(0, 0), false},
		{timers(0, 0, 0, 0), timers(0, 0, 0, 0), true},
		{timers(0, 0, 0, 0, 1, 1), timers(0, 0, 1, 1, 1, 1), false},
		{many(300, 1), many(300, 1), true},
		{many(300, 1), many(299, 1), false},
	} {
		if Same(x.a, x.b) != x.is || Same(x.b, x.a) != x.is {
			t.Errorf("%d: %v, %v: not %t", i, x.a, x.b, x.is)
		}
	}
	for i, h := range slices.Concat(good(), bad()) {
		other := slices.Clone(h)
		slices.Reverse(other)
		if !Same(h, h) || !Same(h, other) || !Same(other, h) {
			t.Errorf("%d: not the same", i)
		}
		if len(h) > api.MaxTimers {
			continue
		}
		for at := range h {
			other := slices.Clone(h)
			other[at].At--
			if Same(h, other) || Same(other, h) {
				t.Errorf("%d: the same, but for place %d", i, at)
			}
		}
	}
}

// P8.2

func TestAdd(t *testing.T) {
	for i, h := range good() {
		if len(h) == api.MaxTimers {
			continue
		}
		id := int64(1000)
		for _, at := range []int64{0, 1, 2, 4, 8, 9, 127, 382, latest - 1, latest} {
			added, e := Add(h, api.Timer{At: at, Id: id})
			holds(t, "add", added, append(slices.Clone(h), api.Timer{At: at, Id: id}), e)
			for _, x := range h { // of the same time as one that is there, ahead of it, or behind it
				if by := x.Id + at%3 - 1; by >= 0 && !slices.Contains(ids(h), by) {
					added, e := Add(h, api.Timer{At: x.At, Id: by})
					holds(t, "add", added, append(slices.Clone(h), api.Timer{At: x.At, Id: by}), e)
				}
			}
		}
		if t.Failed() {
			t.Fatalf("heap %d", i)
		}
	}
}

func TestAddWhatMayNotBe(t *testing.T) {
	for _, h := range good() {
		for _, at := range noTimes {
			for _, id := range []int64{0, 1, 255, 999, math.MaxInt64, -1} { // whether it is there or not
				added, e := Add(h, api.Timer{At: at, Id: id})
				zero(t, "no time", added, e, api.ErrArg)
			}
		}
		for _, id := range []int64{-1, -256, math.MinInt64} {
			added, e := Add(h, api.Timer{At: 5, Id: id})
			zero(t, "no id", added, e, api.ErrArg)
		}
	}
}

func TestAddWhatIsThereAndWhereNoRoomIs(t *testing.T) {
	for _, h := range good() {
		for _, x := range h {
			for _, at := range []int64{0, x.At, latest} { // in a full heap as well
				added, e := Add(h, api.Timer{At: at, Id: x.Id})
				zero(t, "there", added, e, api.ErrThere)
			}
		}
		if len(h) == api.MaxTimers {
			for _, at := range []int64{0, 5, latest} {
				added, e := Add(h, api.Timer{At: at, Id: 999})
				zero(t, "full", added, e, api.ErrFull)
			}
		}
	}
}

func TestCancel(t *testing.T) {
	for i, h := range good() {
		for at, x := range h {
			cut, e := Cancel(h, x.Id)
			holds(t, "cancel", cut, slices.Delete(slices.Clone(h), at, at+1), e)
		}
		for _, id := range []int64{math.MinInt64, -1, 999, math.MaxInt64 - 1} {
			cut, e := Cancel(h, id)
			zero(t, "none", cut, e, api.ErrNone)
		}
		if t.Failed() {
			t.Fatalf("heap %d", i)
		}
	}
}

func TestReset(t *testing.T) {
	for i, h := range good() {
		for at, x := range h {
			for _, then := range []int64{0, x.At, x.At - 1, x.At + 1, 51, 382, latest} {
				if then < 0 || then > latest {
					continue
				}
				want := slices.Clone(h)
				want[at].At = then
				set, e := Reset(h, x.Id, then)
				holds(t, "reset", set, want, e)
			}
		}
		if t.Failed() {
			t.Fatalf("heap %d", i)
		}
	}
}

func TestResetWhatIsNotThere(t *testing.T) {
	for _, h := range good() {
		for _, id := range []int64{math.MinInt64, -1, 999, math.MaxInt64 - 1} {
			for _, at := range []int64{0, 5, latest} {
				set, e := Reset(h, id, at)
				zero(t, "none", set, e, api.ErrNone)
			}
		}
		for _, at := range noTimes { // whether it is there or not
			for _, id := range append(ids(h), -1, 999) {
				set, e := Reset(h, id, at)
				zero(t, "no time", set, e, api.ErrArg)
			}
		}
	}
}

func TestChangesOfBadHeaps(t *testing.T) {
	for _, h := range bad() {
		for _, id := range []int64{-1, 0, 1, 3, 255, 999, math.MaxInt64} {
			for _, at := range []int64{-1, 0, 4, latest, latest + 1} {
				added, e := Add(h, api.Timer{At: at, Id: id})
				zero(t, "add", added, e, api.ErrArg)
				set, e := Reset(h, id, at)
				zero(t, "reset", set, e, api.ErrArg)
			}
			cut, e := Cancel(h, id)
			zero(t, "cancel", cut, e, api.ErrArg)
		}
	}
}

// P8.3

func TestLeast(t *testing.T) {
	for i, h := range good() {
		x, e := Least(h)
		switch {
		case len(h) == 0 && (x != api.Timer{} || e != api.ErrNone):
			t.Errorf("%d: %v, error %d, where there is none", i, x, e)
		case len(h) > 0 && (x != inOrder(h)[0] || e != api.OK):
			t.Errorf("%d: %v, error %d", i, x, e)
		}
	}
	for i, h := range bad() {
		if x, e := Least(h); x != (api.Timer{}) || e != api.ErrArg {
			t.Errorf("%d: %v, error %d, of a bad heap", i, x, e)
		}
	}
}

func TestSixComesFirst(t *testing.T) {
	h, _ := Add(nil, api.Timer{At: 9, Id: 5})
	h, _ = Add(h, api.Timer{At: 3, Id: 6})
	if x, e := Least(h); x != (api.Timer{At: 3, Id: 6}) || e != api.OK {
		t.Errorf("%v, error %d", x, e)
	}
}

// nows are times at, and around, those of a heap's timers, and numbers that are no time.
func nows(h []api.Timer) []int64 {
	l := append([]int64{0, 1, latest}, noTimes...)
	for _, x := range h {
		l = append(l, x.At-1, x.At, x.At+1)
	}
	slices.Sort(l)
	return slices.Compact(l)
}

func TestExpire(t *testing.T) {
	for i, h := range good() {
		l := inOrder(h)
		for _, now := range nows(h) {
			many := 0
			for many < len(l) && l[many].At <= now {
				many++
			}
			due, left, e := Expire(h, now)
			if !slices.Equal(due, ids(l[:many])) {
				t.Errorf("%d: at %d due are %v, and not %v", i, now, due, ids(l[:many]))
			}
			holds(t, "left", left, l[many:], e)
		}
		if t.Failed() {
			t.Fatalf("heap %d", i)
		}
	}
	for _, h := range bad() {
		for _, now := range []int64{math.MinInt64, 0, 5, latest, math.MaxInt64} {
			due, left, e := Expire(h, now)
			zero(t, "bad heap", left, e, api.ErrArg)
			if len(due) != 0 {
				t.Errorf("%v are due of a bad heap", due)
			}
		}
	}
}

// scribble writes into all timers.
func scribble(h []api.Timer) {
	for i := range h {
		h[i] = api.Timer{At: -7 - h[i].At, Id: -7 - h[i].Id}
	}
}

// TestWhoseIsWhat holds that what is handed in stays as it is, behind its length as well, and that what is told is new.
func TestWhoseIsWhat(t *testing.T) {
	for i, h := range slices.Concat(good(), bad()) {
		behind := []api.Timer{{At: 1, Id: 900}, {At: 2, Id: 901}}
		whole := append(slices.Clone(h), behind...)
		h, before := whole[:len(h)], slices.Clone(whole)
		id := int64(0)
		if len(h) > 0 {
			id = h[len(h)/2].Id
		}
		var told [][]api.Timer
		tell := func(h []api.Timer, _ api.Errno) { told = append(told, h) }
		tell(Sorted(h))
		tell(Add(h, api.Timer{At: 1, Id: 999}))
		tell(Cancel(h, id))
		tell(Reset(h, id, 2))
		if len(h) > 0 {
			tell(Reset(h, h[0].Id, h[0].At))
			tell(Cancel(h, h[len(h)-1].Id))
		}
		for _, now := range []int64{-1, 3, latest} {
			due, left, _ := Expire(h, now)
			tell(left, api.OK)
			whose := slices.Clone(due)
			scribble(left)
			if !slices.Equal(due, whose) {
				t.Errorf("%d: what is due shares with what is left", i)
			}
			scribble(left)
		}
		Check(h)
		Least(h)
		Same(h, told[0])
		if !slices.Equal(whole, before) {
			t.Errorf("%d: changed to %v", i, whole)
		}
		for k, l := range told {
			was := slices.Clone(l)
			scribble(whole)
			if !slices.Equal(l, was) {
				t.Errorf("%d: answer %d changed with what was handed in", i, k)
			}
			scribble(whole)
			scribble(l)
			if !slices.Equal(whole, before) {
				t.Errorf("%d: what was handed in changed with answer %d", i, k)
			}
			scribble(l)
		}
	}
}
