package sema

import (
	"math"
	"slices"
	"testing"

	"ravel/api"
)

// sem is a semaphore, free so often, for which some wait.
func sem(free int, wait ...int64) api.Sem { return api.Sem{Free: free, Wait: wait} }

// ids are so many ids, from one on.
func ids(n int, from int64) []int64 {
	var l []int64
	for i := range n {
		l = append(l, from+int64(i))
	}
	return l
}

// good are semaphores that may be, at all edges.
func good() []api.Sem {
	return []api.Sem{
		sem(0), sem(1), sem(2), sem(500), sem(999), sem(1000), {Free: 0, Wait: []int64{}}, {Free: 1000, Wait: []int64{}},
		sem(0, 0), sem(0, 1), sem(0, 7), sem(0, 1<<48), sem(0, math.MaxInt64),
		sem(0, 0, 1), sem(0, 1, 0), sem(0, 7, 0), sem(0, 0, math.MaxInt64), sem(0, math.MaxInt64, 0), sem(0, 5, 3, 9), sem(0, 9, 7, 5, 3, 1, 0, 2, 4, 6, 8),
		sem(0, ids(255, 0)...), sem(0, ids(256, 0)...), sem(0, ids(255, 1000)...), sem(0, ids(256, 1000)...), sem(0, ids(256, math.MaxInt64-255)...),
	}
}

// bad are semaphores that may not be.
func bad() []api.Sem {
	l := []api.Sem{
		// Free is out of its bounds.
		sem(-1), sem(-2), sem(math.MinInt), sem(-1, 5), sem(math.MinInt, 0, 1), sem(1001), sem(1002), sem(1 << 32), sem(math.MaxInt), sem(math.MaxInt, 4), sem(1001, 5),
		// Somebody waits, though it is free.
		sem(1, 0), sem(1, 5), sem(2, 5, 6), sem(500, 3), sem(1000, 5), sem(1000, ids(256, 0)...), sem(1, ids(256, 0)...), sem(1, ids(255, 0)...), sem(1, math.MaxInt64),
		// One waits twice.
		sem(0, 0, 0), sem(0, 5, 5), sem(0, 5, 6, 5), sem(0, 1, 2, 3, 3), sem(0, math.MaxInt64, math.MaxInt64), sem(0, append(ids(255, 0), 0)...), sem(0, append(ids(255, 0), 254)...), sem(0, append(ids(255, 0), 128)...), sem(1, 5, 5),
		// Too many wait.
		sem(0, ids(257, 0)...), sem(0, ids(258, 5)...), sem(1, ids(257, 0)...), sem(0, ids(100000, 0)...), sem(0, make([]int64, 257)...), sem(0, append(ids(256, 0), 300)...), sem(0, append(ids(256, 0), 3)...), sem(0, append(ids(256, 0), -1)...),
	}
	for _, id := range []int64{-1, -2, -256, math.MinInt64 + 1, math.MinInt64} { // alone, ahead, between, and behind
		l = append(l, sem(0, id), sem(0, id, 5), sem(0, 4, id, 5), sem(0, 5, id), sem(0, append(ids(255, 0), id)...), sem(0, append([]int64{id}, ids(255, 0)...)...), sem(1, id), sem(0, id, id))
	}
	return l
}

// mayBe tells by the document's words, one after another, whether a semaphore may be.
func mayBe(s api.Sem) bool {
	if s.Free < 0 || s.Free > 1000 || len(s.Wait) > 256 || s.Free > 0 && len(s.Wait) > 0 {
		return false
	}
	for i, id := range s.Wait {
		if id < 0 || slices.Contains(s.Wait[:i], id) {
			return false
		}
	}
	return true
}

// clone is a semaphore that shares nothing with another one.
func clone(s api.Sem) api.Sem { return sem(s.Free, slices.Clone(s.Wait)...) }

// without are ids without one place.
func without(l []int64, i int) []int64 { return slices.Concat(l[:i], l[i+1:]) }

// like tells whether two are the same, part by part.
func like(a, b api.Sem) bool {
	if a.Free != b.Free || len(a.Wait) != len(b.Wait) {
		return false
	}
	for i := range a.Wait {
		if a.Wait[i] != b.Wait[i] {
			return false
		}
	}
	return true
}

// holds holds that a semaphore is as is wanted, without an error, and may be.
func holds(t *testing.T, name string, s, want api.Sem, e api.Errno) {
	t.Helper()
	if !like(s, want) || e != api.OK || !mayBe(s) {
		t.Errorf("%s: %v, error %d, and not %v", name, s, e, want)
	}
}

// zero holds that there is an error, and all else is zero beside it.
func zero(t *testing.T, name string, s api.Sem, e, want api.Errno) {
	t.Helper()
	if s.Free != 0 || len(s.Wait) != 0 || e != want {
		t.Errorf("%s: %v, error %d, and not error %d", name, s, e, want)
	}
}

// zeroYes is zero of a call that tells yes or no as well.
func zeroYes(t *testing.T, name string, now bool, s api.Sem, e, want api.Errno) {
	t.Helper()
	zero(t, name, s, e, want)
	if now {
		t.Errorf("%s: yes beside error %d", name, e)
	}
}

// zeroId is zero of a call that tells an id as well: beside an error it is 0, and not Nobody.
func zeroId(t *testing.T, name string, who int64, s api.Sem, e, want api.Errno) {
	t.Helper()
	zero(t, name, s, e, want)
	if who != 0 {
		t.Errorf("%s: %d beside error %d", name, who, e)
	}
}

// P10.1

func TestNew(t *testing.T) {
	for n := range 1001 {
		s, e := New(n)
		holds(t, "new", s, sem(n), e)
	}
	for _, n := range []int{math.MinInt, -1000, -2, -1, 1001, 1002, 1 << 32, math.MaxInt} {
		s, e := New(n)
		zero(t, "new", s, e, api.ErrArg)
	}
}

// TestSoManyMayTake lets all take that may, and one more.
func TestSoManyMayTake(t *testing.T) {
	for _, n := range []int{0, 1, 2, 3, 257, 999, 1000} {
		s, _ := New(n)
		for i := range n {
			now, next, e := Take(s, 4)
			holds(t, "take", next, sem(n-i-1), e)
			if !now {
				t.Errorf("of %d: number %d waits", n, i)
			}
			s = next
		}
		now, s, e := Take(s, 4)
		holds(t, "take", s, sem(0, 4), e)
		if now {
			t.Errorf("of %d one more goes on", n)
		}
	}
}

func TestCheck(t *testing.T) {
	for i, s := range good() {
		if e := Check(s); e != api.OK || !mayBe(s) {
			t.Errorf("%d: error %d: %v", i, e, s)
		}
	}
	for i, s := range bad() {
		if e := Check(s); e != api.ErrArg || mayBe(s) {
			t.Errorf("%d: error %d: %v", i, e, s)
		}
	}
}

// TestCheckFree asks of each count that is near the bounds, with nobody who waits, and with somebody.
func TestCheckFree(t *testing.T) {
	for free := -20; free <= 1020; free++ {
		if e := Check(sem(free)); (e == api.OK) != (free >= 0 && free <= 1000) {
			t.Errorf("%d: error %d", free, e)
		}
		if e := Check(sem(free, 8)); (e == api.OK) != (free == 0) {
			t.Errorf("%d, and somebody waits: error %d", free, e)
		}
	}
}

// TestCheckHowMany asks of each number of those who wait.
func TestCheckHowMany(t *testing.T) {
	for n := range 300 {
		if e := Check(sem(0, ids(n, 3)...)); (e == api.OK) != (n <= 256) || e != api.OK && e != api.ErrArg {
			t.Errorf("%d wait: error %d", n, e)
		}
	}
}

// TestCheckAll holds of all lines of up to four ids that just those may be that the document says.
func TestCheckAll(t *testing.T) {
	of := []int64{-2, -1, 0, 1, 2, math.MaxInt64}
	var from func(wait []int64)
	count := [5]int{}
	from = func(wait []int64) {
		for free := -1; free <= 1; free++ {
			s := sem(free, wait...)
			e := Check(s)
			if e == api.OK && free == 0 {
				count[len(wait)]++
			}
			if (e == api.OK) != mayBe(s) || e != api.OK && e != api.ErrArg {
				t.Fatalf("%v: error %d", s, e)
			}
		}
		if len(wait) < 4 {
			for _, id := range of {
				from(append(slices.Clone(wait), id))
			}
		}
	}
	from(nil)
	if count != [5]int{1, 4, 4 * 3, 4 * 3 * 2, 4 * 3 * 2 * 1} {
		t.Errorf("%v may be", count)
	}
}

// TestCheckEachTwo lets each two of all places be of one id.
func TestCheckEachTwo(t *testing.T) {
	for i := range 256 {
		for j := range 256 {
			wait := ids(256, 1)
			wait[i], wait[j] = 7777, 7777
			if e := Check(sem(0, wait...)); (e == api.OK) != (i == j) {
				t.Fatalf("%d and %d: error %d", i, j, e)
			}
		}
	}
}

func TestSame(t *testing.T) {
	for i, x := range []struct {
		a, b api.Sem
		is   bool
	}{
		{api.Sem{}, api.Sem{Wait: []int64{}}, true},
		{sem(0), sem(0), true},
		{sem(0), sem(1), false},
		{sem(999), sem(1000), false},
		{sem(1000), sem(1000), true},
		{sem(0), sem(0, 0), false},
		{sem(0, 0), sem(0, 1), false},
		{sem(0, 1), sem(0, 1), true},
		{sem(0, 1), sem(0, 1, 2), false},
		{sem(0, 2), sem(0, 1, 2), false},
		{sem(0, 1, 2), sem(0, 2, 1), false},
		{sem(0, 1, 2), sem(0, 1, 2), true},
		{sem(0, ids(256, 4)...), sem(0, ids(256, 4)...), true},
		{sem(0, ids(256, 4)...), sem(0, ids(255, 4)...), false},
		{sem(0, ids(256, 4)...), sem(0, ids(256, 5)...), false},
		// Those that may not be are the same, or not, as well.
		{sem(-1), sem(-1), true},
		{sem(-1), sem(0), false},
		{sem(1001), sem(1001), true},
		{sem(1001), sem(1000), false},
		{sem(3, 5), sem(3, 5), true},
		{sem(3, 5), sem(2, 5), false},
		{sem(3, 5), sem(3, 6), false},
		{sem(0, 5, 5), sem(0, 5, 5), true},
		{sem(0, 5, 5), sem(0, 5), false},
		{sem(0, -1), sem(0, -2), false},
		{sem(0, ids(257, 0)...), sem(0, ids(257, 0)...), true},
		{sem(0, ids(257, 0)...), sem(0, ids(258, 0)...), false},
	} {
		if Same(x.a, x.b) != x.is || Same(x.b, x.a) != x.is {
			t.Errorf("%d: %v, %v: not %t", i, x.a, x.b, x.is)
		}
	}
	for i, s := range slices.Concat(good(), bad()) {
		if !Same(s, clone(s)) {
			t.Errorf("%d: not the same", i)
		}
		if other := sem(s.Free^1, s.Wait...); Same(s, other) || Same(other, s) {
			t.Errorf("%d: the same, but for Free", i)
		}
		for at := range s.Wait[:min(len(s.Wait), 300)] {
			other := clone(s)
			other.Wait[at] ^= 1
			if Same(s, other) || Same(other, s) {
				t.Errorf("%d: the same, but for place %d", i, at)
			}
		}
	}
}

// P10.2

func TestTake(t *testing.T) {
	for _, s := range good() {
		for _, id := range []int64{0, 1, 7, 254, 255, 256, 999, 1255, math.MaxInt64 - 255, math.MaxInt64} {
			now, next, e := Take(s, id)
			switch {
			case slices.Contains(s.Wait, id):
				zeroYes(t, "take, waits", now, next, e, api.ErrThere)
			case s.Free > 0:
				holds(t, "take, free", next, sem(s.Free-1), e)
			case len(s.Wait) == 256:
				zeroYes(t, "take, full", now, next, e, api.ErrFull)
			default:
				holds(t, "take, not free", next, sem(0, append(slices.Clone(s.Wait), id)...), e)
			}
			if now != (s.Free > 0) {
				t.Errorf("%d takes of %v: %t", id, s, now)
			}
		}
		for _, id := range []int64{-1, -2, -256, math.MinInt64 + 1, math.MinInt64} {
			now, next, e := Take(s, id)
			zeroYes(t, "take, below 0", now, next, e, api.ErrArg)
		}
	}
}

// TestWhichErrorOfTake lets several errors apply at once.
func TestWhichErrorOfTake(t *testing.T) {
	full := sem(0, ids(256, 10)...)
	for _, x := range []struct {
		s  api.Sem
		id int64
		e  api.Errno
	}{
		{full, -1, api.ErrArg}, {full, math.MinInt64, api.ErrArg}, {sem(0), -1, api.ErrArg}, {sem(1000), -1, api.ErrArg}, {sem(0, 5), -1, api.ErrArg},
		{full, 10, api.ErrThere}, {full, 265, api.ErrThere}, {full, 100, api.ErrThere}, {sem(0, ids(255, 10)...), 264, api.ErrThere}, {sem(0, 5), 5, api.ErrThere}, {sem(0, 0), 0, api.ErrThere},
		{full, 9, api.ErrFull}, {full, 266, api.ErrFull}, {full, 0, api.ErrFull}, {full, math.MaxInt64, api.ErrFull},
		{sem(0, ids(257, 10)...), 9, api.ErrArg}, {sem(0, ids(257, 10)...), 10, api.ErrArg}, {sem(1, 5), 5, api.ErrArg}, {sem(0, 5, 5), 5, api.ErrArg}, {sem(0, -1), -1, api.ErrArg},
	} {
		now, next, e := Take(x.s, x.id)
		zeroYes(t, "take", now, next, e, x.e)
	}
}

// TestBehindAllOthers fills a line, and asks for its order each time.
func TestBehindAllOthers(t *testing.T) {
	s, _ := New(0)
	var line []int64
	for i := range 256 {
		id := int64(i*167%256) + 5
		now, next, e := Take(s, id)
		line = append(line, id)
		holds(t, "take", next, sem(0, line...), e)
		if now {
			t.Errorf("%d goes on, of none that is free", id)
		}
		s = next
	}
	now, next, e := Take(s, 4)
	zeroYes(t, "take", now, next, e, api.ErrFull)
}

// P10.3

func TestGive(t *testing.T) {
	for _, s := range good() {
		who, next, e := Give(s)
		switch {
		case len(s.Wait) > 0:
			holds(t, "give, one waits", next, sem(0, s.Wait[1:]...), e)
			if who != s.Wait[0] {
				t.Errorf("%v: %d goes on", s, who)
			}
		case s.Free == 1000:
			zeroId(t, "give, all free", who, next, e, api.ErrLarge)
		default:
			holds(t, "give", next, sem(s.Free+1), e)
			if who != -1 {
				t.Errorf("%v: %d goes on", s, who)
			}
		}
	}
}

// TestGiveEachCount gives one back at each count there is.
func TestGiveEachCount(t *testing.T) {
	s, _ := New(0)
	for n := range 1000 {
		who, next, e := Give(s)
		holds(t, "give", next, sem(n+1), e)
		if who != -1 {
			t.Errorf("%d free: %d goes on", n, who)
		}
		s = next
	}
	who, s, e := Give(s)
	zeroId(t, "give", who, s, e, api.ErrLarge)
}

func TestDrop(t *testing.T) {
	for _, s := range good() {
		for i, id := range s.Wait {
			next, e := Drop(s, id)
			holds(t, "drop", next, sem(0, without(s.Wait, i)...), e)
		}
		for _, id := range []int64{math.MinInt64, -2, -1, 999, 1256, math.MaxInt64 - 256} { // Nobody waits for none as well
			next, e := Drop(s, id)
			zero(t, "drop, does not wait", next, e, api.ErrNone)
		}
		if !slices.Contains(s.Wait, 0) {
			next, e := Drop(s, 0)
			zero(t, "drop, does not wait", next, e, api.ErrNone)
		}
	}
	for _, x := range []struct {
		id   int64
		left []int64
	}{{5, []int64{3, 9, 0}}, {3, []int64{5, 9, 0}}, {9, []int64{5, 3, 0}}, {0, []int64{5, 3, 9}}} {
		next, e := Drop(sem(0, 5, 3, 9, 0), x.id)
		holds(t, "drop", next, sem(0, x.left...), e)
	}
}

// TestChangesOfBadSems holds that ErrArg is ahead of all that may be wrong besides.
func TestChangesOfBadSems(t *testing.T) {
	for _, s := range bad() {
		who, next, e := Give(s)
		zeroId(t, "give", who, next, e, api.ErrArg)
		for _, id := range []int64{math.MinInt64, -2, -1, 0, 3, 5, 300, math.MaxInt64} {
			now, next, e := Take(s, id)
			zeroYes(t, "take", now, next, e, api.ErrArg)
			next, e = Drop(s, id)
			zero(t, "drop", next, e, api.ErrArg)
		}
	}
}

// R2

// scribble writes over all that a list has, behind its length as well.
func scribble(l []int64) {
	l = l[:cap(l)]
	for i := range l {
		l[i] = -77
	}
}

// TestWhoseIsWhat holds that no call changes what it was handed, and that what it answers is the caller's own.
func TestWhoseIsWhat(t *testing.T) {
	for name, call := range map[string]func(api.Sem) (api.Sem, api.Errno){
		"take":         func(s api.Sem) (api.Sem, api.Errno) { _, n, e := Take(s, 9); return n, e },
		"give":         func(s api.Sem) (api.Sem, api.Errno) { _, n, e := Give(s); return n, e },
		"drop ahead":   func(s api.Sem) (api.Sem, api.Errno) { return Drop(s, 5) },
		"drop between": func(s api.Sem) (api.Sem, api.Errno) { return Drop(s, 3) },
		"drop behind":  func(s api.Sem) (api.Sem, api.Errno) { return Drop(s, 8) },
	} {
		behind := []int64{5, 3, 7, 8, 11, 12}
		s := sem(0, behind[:4]...)
		told, e := call(s)
		if e != api.OK || !slices.Equal(behind, []int64{5, 3, 7, 8, 11, 12}) || s.Free != 0 {
			t.Errorf("%s: error %d, and %v behind it", name, e, behind)
		}
		again, _ := call(s)
		was := clone(told)
		scribble(behind)
		if !like(told, was) {
			t.Errorf("%s: hangs on what it was handed: %v", name, told)
		}
		scribble(told.Wait)
		if !like(again, was) {
			t.Errorf("%s: hangs on what was answered ahead: %v", name, again)
		}
	}
}

// TestWhoseIsWhatOfNone holds the same of semaphores for which nobody waits, but whose lists have room.
func TestWhoseIsWhatOfNone(t *testing.T) {
	for name, call := range map[string]func(api.Sem) (api.Sem, api.Errno){
		"take": func(s api.Sem) (api.Sem, api.Errno) { _, n, e := Take(s, 9); return n, e },
		"give": func(s api.Sem) (api.Sem, api.Errno) { _, n, e := Give(s); return n, e },
	} {
		for free := range 2 {
			room := []int64{1, 2, 3}
			told, e := call(sem(free, room[:0]...))
			was := clone(told)
			if e != api.OK || !slices.Equal(room, []int64{1, 2, 3}) {
				t.Errorf("%s: error %d, and %v behind it", name, e, room)
			}
			scribble(told.Wait)
			scribble(room)
			if told.Free != was.Free || slices.Contains(room, 9) {
				t.Errorf("%s: %v of %v", name, told, room)
			}
		}
	}
}
