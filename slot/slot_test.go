package slot

import (
	"math"
	"slices"
	"testing"

	"ravel/api"
)

// top is the greatest generation.
const top = int64(api.MaxGen)

// noCounts are numbers of which no places are.
var noCounts = []int{math.MinInt, -256, -1, 0, api.MaxTasks + 1, math.MaxInt}

// of are places of such generations, where those of such numbers are Live.
func of(gen []int64, live ...int) api.Places {
	s := api.Places{Gen: gen, Live: make([]bool, len(gen))}
	for _, i := range live {
		s.Live[i] = true
	}
	return s
}

func gens(l ...int64) []int64 { return l }

// filled are so many places of a generation, all of which are Live, or none.
func filled(n int, gen int64, live bool) api.Places {
	return api.Places{Gen: slices.Repeat([]int64{gen}, n), Live: slices.Repeat([]bool{live}, n)}
}

// good are places that may be, at all edges.
func good() []api.Places {
	return []api.Places{
		of(gens(0)), of(gens(0), 0), of(gens(1)), of(gens(1), 0), of(gens(top)), of(gens(top - 1)), of(gens(top-1), 0),
		of(gens(0, 0)), of(gens(7, 0), 1), of(gens(7, 0), 0), of(gens(3, 3), 0, 1),
		of(gens(top, top)), of(gens(top, top-1), 1), of(gens(top-1, top), 0), of(gens(top-1, top-1), 0, 1),
		of(gens(5, 0, top, 2, 9), 0, 4), of(gens(5, 0, top, 2, 9), 1, 3), of(gens(0, top-1, 0), 0, 1, 2),
		filled(255, 4, true), filled(256, 0, false), filled(256, 0, true), filled(256, top, false), filled(256, top-1, true),
	}
}

// bad are places that may not be.
func bad() []api.Places {
	last := func(n int, gen int64, live bool) api.Places {
		s := filled(n, 1, false)
		s.Gen[n-1], s.Live[n-1] = gen, live
		return s
	}
	return []api.Places{
		{}, {Gen: gens(), Live: []bool{}}, {Gen: gens(0)}, {Live: []bool{false}}, {Live: []bool{true}},
		{Gen: gens(0, 0), Live: []bool{false}}, {Gen: gens(0, 0), Live: []bool{true}},
		{Gen: gens(0), Live: []bool{false, false}}, {Gen: gens(0), Live: []bool{false, true}},
		filled(257, 0, false), filled(257, 0, true), filled(300, 1, false),
		{Gen: make([]int64, 256), Live: make([]bool, 257)}, {Gen: make([]int64, 257), Live: make([]bool, 256)},
		of(gens(-1)), of(gens(-1), 0), of(gens(math.MinInt64)), of(gens(math.MinInt64), 0),
		of(gens(top + 1)), of(gens(top+1), 0), of(gens(math.MaxInt64)), of(gens(math.MaxInt64), 0),
		of(gens(top), 0), of(gens(0, top), 1), of(gens(0, top), 0, 1), of(gens(top, 0), 0),
		of(gens(0, -1), 0), of(gens(-1, 0), 1), of(gens(0, top+1)), of(gens(top+1, 0)),
		last(256, -1, false), last(256, top+1, false), last(256, top, true), last(256, -1, true),
	}
}

func copied(s api.Places) api.Places {
	return api.Places{Gen: slices.Clone(s.Gen), Live: slices.Clone(s.Live)}
}

func equal(a, b api.Places) bool {
	return slices.Equal(a.Gen, b.Gen) && slices.Equal(a.Live, b.Live)
}

// zero holds that there is an error, and all else is zero beside it.
func zero(t *testing.T, name string, n int64, s api.Places, e, want api.Errno) {
	t.Helper()
	if n != 0 || len(s.Gen) != 0 || len(s.Live) != 0 || e != want {
		t.Errorf("%s: %d, %v, error %d, and not error %d", name, n, s, e, want)
	}
}

// P5.1

func TestNew(t *testing.T) {
	for n := 1; n <= api.MaxTasks; n++ {
		s, e := New(n)
		if !equal(s, filled(n, 0, false)) || e != api.OK {
			t.Errorf("%d: %v, error %d", n, s, e)
		}
	}
	for _, n := range noCounts {
		s, e := New(n)
		zero(t, "no count", 0, s, e, api.ErrArg)
	}
}

func TestCheck(t *testing.T) {
	for i, s := range good() {
		if e := Check(s); e != api.OK {
			t.Errorf("%d: error %d", i, e)
		}
	}
	for i, s := range bad() {
		if e := Check(s); e != api.ErrArg {
			t.Errorf("%d: error %d", i, e)
		}
	}
}

func TestSame(t *testing.T) {
	for i, x := range []struct {
		a, b api.Places
		is   bool
	}{
		{api.Places{}, api.Places{}, true},
		{api.Places{}, api.Places{Gen: gens(), Live: []bool{}}, true},
		{of(gens(0)), of(gens(0)), true},
		{of(gens(3, 4), 1), of(gens(3, 4), 1), true},
		{filled(256, 9, true), filled(256, 9, true), true},
		// Those that may not be are the same, or not, as well.
		{of(gens(-1)), of(gens(-1)), true},
		{of(gens(top), 0), of(gens(top), 0), true},
		{api.Places{Gen: gens(0)}, api.Places{Gen: gens(0)}, true},
		{api.Places{Gen: gens(0)}, of(gens(0)), false},
		{api.Places{Live: []bool{false}}, of(gens(0)), false},
		{of(gens(-1)), of(gens(1)), false},
		{api.Places{}, of(gens(0)), false},
		{of(gens(0)), of(gens(1)), false},
		{of(gens(0)), of(gens(0), 0), false},
		{of(gens(0)), of(gens(0, 0)), false},
		{of(gens(0, 0)), of(gens(0, 1)), false},
		{of(gens(3, 4)), of(gens(4, 3)), false},
		{of(gens(3, 3), 0), of(gens(3, 3), 1), false},
		{of(gens(3, 3), 0), of(gens(3, 3), 0, 1), false},
		{filled(256, 9, true), filled(255, 9, true), false},
	} {
		if Same(x.a, x.b) != x.is || Same(x.b, x.a) != x.is {
			t.Errorf("%d: %v, %v: not %t", i, x.a, x.b, x.is)
		}
	}
}

func TestIds(t *testing.T) {
	for i, x := range []struct {
		s   api.Places
		ids []int64
	}{
		{of(gens(0)), nil},
		{of(gens(9)), nil},
		{of(gens(0), 0), gens(0)},
		{of(gens(1), 0), gens(256)},
		{of(gens(0, 0), 1), gens(1)},
		{of(gens(0, 0), 0, 1), gens(0, 1)},
		// By their numbers, and not by their ids.
		{of(gens(7, 0, 3), 0, 1, 2), gens(7*256, 1, 3*256+2)},
		{of(gens(7, 0, 3), 0, 2), gens(7*256, 3*256+2)},
		{of(gens(top, top-1, 0), 1), gens((top-1)*256 + 1)},
		{filled(256, top, false), nil},
	} {
		if ids, e := Ids(x.s); !slices.Equal(ids, x.ids) || e != api.OK {
			t.Errorf("%d: %v, error %d", i, ids, e)
		}
	}
	ids, e := Ids(filled(256, top-1, true))
	if len(ids) != 256 || e != api.OK {
		t.Fatalf("%d ids, error %d", len(ids), e)
	}
	for i, id := range ids {
		if id != (top-1)*256+int64(i) {
			t.Errorf("%d: %d", i, id)
		}
	}
	for _, s := range bad() {
		ids, e := Ids(s)
		zero(t, "bad places", int64(len(ids)), api.Places{}, e, api.ErrArg)
	}
}

// P5.2

func TestTake(t *testing.T) {
	for i, x := range []struct {
		s    api.Places
		id   int64
		then api.Places
	}{
		{of(gens(0)), 0, of(gens(0), 0)},
		{of(gens(1)), 256, of(gens(1), 0)},
		{of(gens(0, 0)), 0, of(gens(0, 0), 0)},
		{of(gens(0, 0), 0), 1, of(gens(0, 0), 0, 1)},
		{of(gens(0, 0), 1), 0, of(gens(0, 0), 0, 1)},
		// The least number, and not the least generation.
		{of(gens(9, 0, 4)), 9 * 256, of(gens(9, 0, 4), 0)},
		{of(gens(9, 3, 4), 0), 3*256 + 1, of(gens(9, 3, 4), 0, 1)},
		{of(gens(9, 3, 4), 0, 1), 4*256 + 2, of(gens(9, 3, 4), 0, 1, 2)},
		{of(gens(9, 3, 4), 0, 2), 3*256 + 1, of(gens(9, 3, 4), 0, 1, 2)},
		// One of the greatest generation is not free, one below it is.
		{of(gens(top - 1)), (top - 1) * 256, of(gens(top-1), 0)},
		{of(gens(top, top-1)), (top-1)*256 + 1, of(gens(top, top-1), 1)},
		{of(gens(top, top, 5)), 5*256 + 2, of(gens(top, top, 5), 2)},
		{of(gens(top, 1, 0), 1), 2, of(gens(top, 1, 0), 1, 2)},
	} {
		id, then, e := Take(x.s)
		if id != x.id || !equal(then, x.then) || e != api.OK {
			t.Errorf("%d: %d, %v, error %d", i, id, then, e)
		}
	}
}

// TestTakeAll takes all places there may be, one after the other, of all counts.
func TestTakeAll(t *testing.T) {
	for n := 1; n <= api.MaxTasks; n++ {
		s := filled(n, int64(n), false)
		for i := range n {
			id, then, e := Take(s)
			s.Live[i] = true
			if id != int64(n*256+i) || !equal(then, s) || e != api.OK {
				t.Fatalf("%d of %d: %d, %v, error %d", i, n, id, then, e)
			}
		}
		id, then, e := Take(s)
		zero(t, "full", id, then, e, api.ErrFull)
	}
}

func TestTakeWhereNothingIsFree(t *testing.T) {
	for _, s := range []api.Places{of(gens(0), 0), of(gens(top)), of(gens(top-1), 0), of(gens(top, 0), 1), of(gens(0, top), 0), of(gens(top, top)), filled(256, 3, true), filled(256, top, false)} {
		id, then, e := Take(s)
		zero(t, "none free", id, then, e, api.ErrFull)
	}
	for _, s := range bad() {
		id, then, e := Take(s)
		zero(t, "bad places", id, then, e, api.ErrArg)
	}
}

// P5.3

func TestFind(t *testing.T) {
	some := of(gens(5, 0, top, 2, 9), 0, 1, 3)
	for i, x := range []struct {
		s  api.Places
		id int64
		at int
		e  api.Errno
	}{
		{some, 5 * 256, 0, api.OK},
		{some, 1, 1, api.OK},
		{some, 2*256 + 3, 3, api.OK},
		{some, -1, 0, api.ErrArg},
		{some, -256, 0, api.ErrArg},
		{some, -5 * 256, 0, api.ErrArg},
		{some, math.MinInt64, 0, api.ErrArg},
		// Its number is no place's, whatever its generation.
		{some, 5, 0, api.ErrNone},
		{some, 255, 0, api.ErrNone},
		{some, 256 + 5, 0, api.ErrNone},
		{some, (top-1)*256 + 255, 0, api.ErrNone},
		{some, math.MaxInt64, 0, api.ErrNone},
		// Its generation is above the place's, whether that is Live or not.
		{some, 6 * 256, 0, api.ErrNone},
		{some, 256 + 1, 0, api.ErrNone},
		{some, (top+1)*256 + 2, 0, api.ErrNone},
		{some, 3*256 + 3, 0, api.ErrNone},
		{some, 10*256 + 4, 0, api.ErrNone},
		{some, math.MaxInt64 - 255, 0, api.ErrNone},
		// It is below the place's, whether that is Live or not.
		{some, 4 * 256, 0, api.ErrStale},
		{some, 0, 0, api.ErrStale},
		{some, 2, 0, api.ErrStale},
		{some, (top-1)*256 + 2, 0, api.ErrStale},
		{some, 256 + 3, 0, api.ErrStale},
		{some, 8*256 + 4, 0, api.ErrStale},
		{some, 4, 0, api.ErrStale},
		// It is the place's, and nobody is there.
		{some, top*256 + 2, 0, api.ErrNone},
		{some, 9*256 + 4, 0, api.ErrNone},
		{of(gens(0)), 0, 0, api.ErrNone},
		{of(gens(0), 0), 0, 0, api.OK},
		{of(gens(top-1), 0), (top - 1) * 256, 0, api.OK},
		{filled(256, 3, true), 3*256 + 255, 255, api.OK},
		{filled(256, 3, true), 2*256 + 255, 0, api.ErrStale},
		{filled(256, 3, true), 4*256 + 255, 0, api.ErrNone},
		{filled(256, 3, false), 3*256 + 255, 0, api.ErrNone},
		{filled(255, 3, true), 3*256 + 255, 0, api.ErrNone},
	} {
		if at, e := Find(x.s, x.id); at != x.at || e != x.e {
			t.Errorf("%d: %d, error %d, and not %d, error %d", i, at, e, x.at, x.e)
		}
		if x.e == api.OK {
			continue
		}
		s, e := Free(x.s, x.id)
		zero(t, "free", 0, s, e, x.e)
	}
}

// found is what Find answers of places that may be, by the words of the document alone.
func found(s api.Places, id int64) (int, api.Errno) {
	if id < 0 {
		return 0, api.ErrArg
	}
	number := id % 256
	if number >= int64(len(s.Gen)) || (id-number)/256 > s.Gen[number] {
		return 0, api.ErrNone
	}
	if (id-number)/256 < s.Gen[number] {
		return 0, api.ErrStale
	}
	if !s.Live[number] {
		return 0, api.ErrNone
	}
	return int(number), api.OK
}

// TestFindAround looks for each id of few generations, and for those around each place's own.
func TestFindAround(t *testing.T) {
	for k, s := range good() {
		var ids []int64
		for id := int64(-300); id < 2*256; id++ {
			ids = append(ids, id)
		}
		for i, gen := range s.Gen {
			for _, by := range []int64{-257, -256, -255, -1, 0, 1, 255, 256, 257} {
				ids = append(ids, gen*256+int64(i)+by)
			}
		}
		for _, id := range ids {
			at, e := Find(s, id)
			if want, f := found(s, id); at != want || e != f {
				t.Fatalf("%d: %d is %d, error %d, and not %d, error %d", k, id, at, e, want, f)
			}
		}
	}
}

func TestFree(t *testing.T) {
	for i, x := range []struct {
		s    api.Places
		id   int64
		then api.Places
	}{
		{of(gens(0), 0), 0, of(gens(1))},
		{of(gens(1), 0), 256, of(gens(2))},
		{of(gens(0, 0), 0, 1), 0, of(gens(1, 0), 1)},
		{of(gens(0, 0), 0, 1), 1, of(gens(0, 1), 0)},
		{of(gens(5, 0, top, 2, 9), 0, 1, 3), 2*256 + 3, of(gens(5, 0, top, 3, 9), 0, 1)},
		{of(gens(top-1), 0), (top - 1) * 256, of(gens(top))},
		{of(gens(top-2), 0), (top - 2) * 256, of(gens(top - 1))},
	} {
		then, e := Free(x.s, x.id)
		if !equal(then, x.then) || e != api.OK {
			t.Errorf("%d: %v, error %d", i, then, e)
		}
		if Check(then) != api.OK {
			t.Errorf("%d: freed, and may not be: %v", i, then)
		}
	}
	s := filled(256, 7, true)
	for i := 255; i >= 0; i-- {
		then, e := Free(s, int64(7*256+i))
		s.Gen[i], s.Live[i] = 8, false
		if !equal(then, s) || e != api.OK {
			t.Fatalf("%d: %v, error %d", i, then, e)
		}
	}
}

func TestFindAndFreeInBadPlaces(t *testing.T) {
	for _, s := range bad() {
		for _, id := range []int64{math.MinInt64, -1, 0, 1, 255, 256, 257, top * 256, (top - 1) * 256, math.MaxInt64} {
			at, e := Find(s, id)
			zero(t, "find", int64(at), api.Places{}, e, api.ErrArg)
			then, e := Free(s, id)
			zero(t, "free", 0, then, e, api.ErrArg)
		}
	}
}

// P5.4

func TestTheFirstIdAndTheSecond(t *testing.T) {
	s, _ := New(1)
	for _, want := range gens(0, 256, 512, 768) {
		id, taken, e := Take(s)
		if id != want || e != api.OK {
			t.Fatalf("%d, error %d, and not %d", id, e, want)
		}
		s, e = Free(taken, id)
		if e != api.OK {
			t.Fatalf("error %d", e)
		}
		for stale := int64(0); stale <= id; stale += 256 {
			if _, e := Find(s, stale); e != api.ErrStale {
				t.Errorf("%d behind %d: error %d", stale, id, e)
			}
		}
	}
}

// life takes and frees by a short rule, and holds all ids that were given against those that there are.
type life struct {
	s     api.Places
	given map[int64]struct{}
	live  []int64
	gone  []int64
}

func (l *life) take(t *testing.T) {
	id, then, e := Take(l.s)
	if e == api.ErrFull {
		zero(t, "full", id, then, e, api.ErrFull)
		return
	}
	if _, twice := l.given[id]; twice || e != api.OK {
		t.Fatalf("%d: given before: %t, error %d", id, twice, e)
	}
	l.given[id] = struct{}{}
	l.live = append(l.live, id)
	l.s = then
}

func (l *life) free(t *testing.T, i int) {
	id := l.live[i]
	then, e := Free(l.s, id)
	if e != api.OK {
		t.Fatalf("%d: error %d", id, e)
	}
	l.live = slices.Delete(l.live, i, i+1)
	l.gone = append(l.gone, id)
	l.s = then
}

func (l *life) hold(t *testing.T) {
	ids, e := Ids(l.s)
	slices.Sort(l.live)
	if slices.Sort(ids); !slices.Equal(ids, l.live) || e != api.OK || Check(l.s) != api.OK {
		t.Fatalf("%v, error %d, and not %v", ids, e, l.live)
	}
	for _, id := range l.live {
		if i, e := Find(l.s, id); int64(i) != id%256 || e != api.OK {
			t.Fatalf("%d: %d, error %d", id, i, e)
		}
	}
	for _, id := range l.gone {
		if i, e := Find(l.s, id); i != 0 || e != api.ErrStale {
			t.Fatalf("%d is gone: %d, error %d", id, i, e)
		}
		then, e := Free(l.s, id)
		zero(t, "gone", 0, then, e, api.ErrStale)
	}
}

func TestNoIdIsGivenTwice(t *testing.T) {
	for _, first := range []api.Places{filled(1, 0, false), filled(2, 0, false), filled(5, 0, false), filled(256, 0, false), of(gens(top-3, 0, top-1, top)), filled(3, top-4, false), filled(256, top-1, false)} {
		l := &life{s: first, given: map[int64]struct{}{}}
		seed := uint32(len(first.Gen))
		for range 400 {
			seed = seed*1664525 + 1013904223
			if n := len(l.live); n > 0 && seed>>30 == 0 {
				l.free(t, int(seed>>8)%n)
			} else {
				l.take(t)
			}
			if n := len(l.live); n > 0 && seed>>29&3 == 3 {
				l.free(t, int(seed>>4)%n)
			}
			l.hold(t)
		}
		if len(l.gone) == 0 {
			t.Errorf("%v: none was freed", first)
		}
	}
}

// TestTheLastGeneration takes and frees until no id is left that was not given.
func TestTheLastGeneration(t *testing.T) {
	l := &life{s: filled(3, top-4, false), given: map[int64]struct{}{}}
	for range 100 {
		l.take(t)
		if len(l.live) > 0 {
			l.free(t, 0)
		}
	}
	l.hold(t)
	if len(l.given) != 3*4 || !equal(l.s, filled(3, top, false)) {
		t.Errorf("%d were given, and left are %v", len(l.given), l.s)
	}
	id, then, e := Take(l.s)
	zero(t, "none left", id, then, e, api.ErrFull)
}

// scribble writes into all parts of places.
func scribble(s api.Places) {
	for i := range s.Gen {
		s.Gen[i] = 77 - s.Gen[i]
	}
	for i := range s.Live {
		s.Live[i] = !s.Live[i]
	}
}

// TestWhoseIsWhat holds that what is handed in stays as it is, and that what is told is new.
func TestWhoseIsWhat(t *testing.T) {
	for i, s := range slices.Concat(good(), bad()) {
		before := copied(s)
		ids, _ := Ids(s)
		id, taken, _ := Take(s)
		if len(ids) > 0 {
			id = ids[len(ids)-1]
		}
		freed, _ := Free(s, id)
		Find(s, id)
		Check(s)
		Same(s, taken)
		if !equal(s, before) {
			t.Errorf("%d: changed to %v", i, s)
		}
		first, second := copied(taken), copied(freed)
		scribble(s)
		if !equal(taken, first) || !equal(freed, second) {
			t.Errorf("%d: what was told changed with what was handed in", i)
		}
		scribble(s)
		scribble(taken)
		scribble(freed)
		if !equal(s, before) {
			t.Errorf("%d: what was handed in changed with what was told", i)
		}
	}
	a, _ := New(3)
	b, _ := New(3)
	scribble(a)
	if !equal(b, filled(3, 0, false)) {
		t.Errorf("new places share with others: %v", b)
	}
}
