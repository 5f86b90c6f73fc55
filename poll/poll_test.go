package poll

import (
	"math"
	"slices"
	"testing"

	"ravel/api"
)

// shut, open and ready are descriptors for which nobody waits.
var (
	shut  = api.Fd{Open: false, Ready: false, Who: -1}
	open  = api.Fd{Open: true, Ready: false, Who: -1}
	ready = api.Fd{Open: true, Ready: true, Who: -1}
)

// by is a descriptor for which an id waits.
func by(id int64) api.Fd { return api.Fd{Open: true, Who: id} }

func fds(l ...api.Fd) []api.Fd { return l }

// many are so many descriptors of one kind.
func many(n int, d api.Fd) []api.Fd {
	var f []api.Fd
	for range n {
		f = append(f, d)
	}
	return f
}

// waited are so many descriptors, for each of which one waits, from an id on.
func waited(n int, from int64) []api.Fd {
	var f []api.Fd
	for i := range n {
		f = append(f, by(from+int64(i)))
	}
	return f
}

// good are descriptors that may be, at all edges.
func good() [][]api.Fd {
	return [][]api.Fd{
		nil, {}, fds(shut), fds(open), fds(ready), fds(by(0)), fds(by(1)), fds(by(5)), fds(by(math.MaxInt64)), fds(by(1 << 48)),
		fds(shut, shut), fds(open, open), fds(ready, ready), fds(by(0), by(1)), fds(by(1), by(0)), fds(by(0), by(math.MaxInt64)),
		fds(shut, open, ready, by(7)), fds(by(7), ready, open, shut), fds(by(7), open, by(3), ready, by(5), shut, by(0)),
		many(15, shut), many(16, shut), many(16, open), many(16, ready), waited(15, 0), waited(16, 0), waited(16, math.MaxInt64-15),
		slices.Concat(many(15, shut), fds(by(9))), slices.Concat(fds(by(9)), many(15, ready)), slices.Concat(waited(15, 3), fds(ready)), slices.Concat(waited(15, 3), fds(shut)),
	}
}

// bad are descriptors that may not be.
func bad() [][]api.Fd {
	var l [][]api.Fd
	for _, d := range noFds() { // alone, ahead, between, and behind
		l = append(l, fds(d), fds(d, open), fds(shut, d), fds(by(3), d, ready), slices.Concat(fds(d), many(15, open)), slices.Concat(many(15, shut), fds(d)))
	}
	return append(l,
		// Two of one Who.
		fds(by(5), by(5)), fds(by(0), by(0)), fds(by(math.MaxInt64), by(math.MaxInt64)), fds(by(5), open, by(5)), fds(by(1), by(2), by(1)), fds(shut, by(4), ready, by(3), by(4), open),
		slices.Concat(waited(15, 0), fds(by(0))), slices.Concat(waited(15, 0), fds(by(14))), slices.Concat(fds(by(8)), many(14, open), fds(by(8))),
		// Too many.
		many(17, shut), many(17, open), many(17, ready), waited(17, 0), make([]api.Fd, 17), many(100000, open), waited(100000, 1),
	)
}

// noFds are descriptors none of which may be.
func noFds() []api.Fd {
	l := fds(api.Fd{}, api.Fd{Ready: true}, api.Fd{Ready: true, Who: -1}, api.Fd{Ready: true, Who: 5}, api.Fd{Open: true, Ready: true})
	for _, who := range []int64{1, 5, math.MaxInt64, -2, -3, math.MinInt64} {
		l = append(l, api.Fd{Who: who}, api.Fd{Open: true, Ready: true, Who: who})
	}
	for _, who := range []int64{-2, -3, -256, math.MinInt64 + 1, math.MinInt64} {
		l = append(l, api.Fd{Open: true, Who: who})
	}
	return l
}

// none are places at which descriptors have none.
func none(f []api.Fd) []int { return []int{math.MinInt, -1, len(f), len(f) + 1, math.MaxInt} }

// mayBe tells by the document's words, one after another, whether descriptors may be.
func mayBe(f []api.Fd) bool {
	if len(f) > 16 {
		return false
	}
	for i, d := range f {
		if d.Who < -1 || !d.Open && (d.Ready || d.Who != -1) || d.Ready && d.Who != -1 {
			return false
		}
		for _, other := range f[:i] {
			if other.Who == d.Who && d.Who != -1 {
				return false
			}
		}
	}
	return true
}

// ids are who waits, by descriptor.
func ids(f []api.Fd) []int64 {
	var l []int64
	for _, d := range f {
		if d.Who >= 0 {
			l = append(l, d.Who)
		}
	}
	return l
}

// put are descriptors of which one is another one.
func put(f []api.Fd, i int, d api.Fd) []api.Fd {
	f = slices.Clone(f)
	f[i] = d
	return f
}

// holds holds that descriptors are as is wanted, without an error, and may be.
func holds(t *testing.T, name string, f, want []api.Fd, e api.Errno) {
	t.Helper()
	if !slices.Equal(f, want) || e != api.OK || !mayBe(f) {
		t.Errorf("%s: %v, error %d, and not %v", name, f, e, want)
	}
}

// zero holds that there is an error, and all else is zero beside it.
func zero(t *testing.T, name string, f []api.Fd, e, want api.Errno) {
	t.Helper()
	if len(f) != 0 || e != want {
		t.Errorf("%s: %v, error %d, and not error %d", name, f, e, want)
	}
}

// zeroId is zero of a call that tells an id as well: beside an error it is 0, and not Nobody.
func zeroId(t *testing.T, name string, who int64, f []api.Fd, e, want api.Errno) {
	t.Helper()
	zero(t, name, f, e, want)
	if who != 0 {
		t.Errorf("%s: %d beside error %d", name, who, e)
	}
}

// zeroYes is zero of a call that tells yes or no as well.
func zeroYes(t *testing.T, name string, now bool, f []api.Fd, e, want api.Errno) {
	t.Helper()
	zero(t, name, f, e, want)
	if now {
		t.Errorf("%s: yes beside error %d", name, e)
	}
}

// P9.1

func TestNew(t *testing.T) {
	for n := range 17 {
		f, e := New(n)
		holds(t, "new", f, many(n, shut), e)
	}
	for _, n := range []int{math.MinInt, -17, -1, 17, 18, 1 << 32, math.MaxInt} {
		f, e := New(n)
		zero(t, "new", f, e, api.ErrArg)
	}
}

func TestCheck(t *testing.T) {
	for i, f := range good() {
		if e := Check(f); e != api.OK || !mayBe(f) {
			t.Errorf("%d: error %d: %v", i, e, f)
		}
	}
	for i, f := range bad() {
		if e := Check(f); e != api.ErrArg || mayBe(f) {
			t.Errorf("%d: error %d: %v", i, e, f)
		}
	}
}

// all goes through all lists of so many descriptors of some, whether they may be or not.
func all(n int, of []api.Fd, tell func([]api.Fd)) {
	f := make([]api.Fd, n)
	var from func(i int)
	from = func(i int) {
		if i == n {
			tell(f)
			return
		}
		for _, f[i] = range of {
			from(i + 1)
		}
	}
	from(0)
}

// TestCheckAll holds of all lists of up to three descriptors that just those may be that the document says.
func TestCheckAll(t *testing.T) {
	var of []api.Fd
	for _, who := range []int64{-2, -1, 0, 1, math.MaxInt64} {
		of = append(of, api.Fd{Who: who}, api.Fd{Ready: true, Who: who}, api.Fd{Open: true, Who: who}, api.Fd{Open: true, Ready: true, Who: who})
	}
	// One is shut, one open, one ready, and for three one waits: of two that wait each has a Who of its own.
	for n, want := range []int{1, 6, 9 + 2*3*3 + 6, 27 + 3*9*3 + 3*3*6 + 6} {
		count := 0
		all(n, of, func(f []api.Fd) {
			e := Check(f)
			if e == api.OK {
				count++
			}
			if (e == api.OK) != mayBe(f) || e != api.OK && e != api.ErrArg {
				t.Fatalf("%v: error %d", f, e)
			}
		})
		if count != want {
			t.Errorf("%d descriptors: %d may be, and not %d", n, count, want)
		}
	}
}

// TestCheckEachTwo lets each two of all descriptors be waited for by one.
func TestCheckEachTwo(t *testing.T) {
	for i := range 16 {
		for j := range 16 {
			for _, f := range [][]api.Fd{many(16, open), waited(16, 1), many(16, shut), many(16, ready)} {
				f[i], f[j] = by(77), by(77)
				if e := Check(f); (e == api.OK) != (i == j) {
					t.Fatalf("%d and %d: error %d", i, j, e)
				}
			}
		}
	}
}

func TestSame(t *testing.T) {
	for i, x := range []struct {
		a, b []api.Fd
		is   bool
	}{
		{nil, []api.Fd{}, true},
		{nil, fds(shut), false},
		{nil, fds(api.Fd{}), false},
		{fds(shut), fds(shut), true},
		{fds(shut), fds(open), false},
		{fds(shut), fds(shut, shut), false},
		{fds(open), fds(ready), false},
		{fds(open), fds(by(0)), false},
		{fds(by(0)), fds(by(1)), false},
		{fds(by(1)), fds(by(1)), true},
		{fds(by(1), by(2)), fds(by(2), by(1)), false},
		{fds(open, shut), fds(shut, open), false},
		{fds(open, shut, ready), fds(open, shut, ready), true},
		{waited(16, 4), waited(16, 4), true},
		{waited(16, 4), waited(15, 4), false},
		{waited(16, 4), waited(16, 5), false},
		// Those that may not be are the same, or not, as well.
		{fds(api.Fd{}), fds(api.Fd{}), true},
		{fds(api.Fd{}), fds(shut), false},
		{fds(api.Fd{Who: -2}), fds(shut), false},
		{fds(by(-2)), fds(by(-2)), true},
		{fds(by(-2)), fds(open), false},
		{fds(by(5), by(5)), fds(by(5), by(5)), true},
		{many(17, open), many(17, open), true},
		{many(17, open), many(18, open), false},
	} {
		if Same(x.a, x.b) != x.is || Same(x.b, x.a) != x.is {
			t.Errorf("%d: %v, %v: not %t", i, x.a, x.b, x.is)
		}
	}
	for i, f := range slices.Concat(good(), bad()) {
		if !Same(f, slices.Clone(f)) {
			t.Errorf("%d: not the same", i)
		}
		for at, d := range f[:min(len(f), 20)] {
			other := d
			other.Open = !d.Open
			another := d
			another.Ready = !d.Ready
			for _, x := range fds(other, another, api.Fd{Open: d.Open, Ready: d.Ready, Who: d.Who ^ 1}) {
				if Same(f, put(f, at, x)) || Same(put(f, at, x), f) {
					t.Errorf("%d: the same, but for place %d", i, at)
				}
			}
		}
	}
}

func TestWaits(t *testing.T) {
	for i, f := range good() {
		if l, e := Waits(f); !slices.Equal(l, ids(f)) || e != api.OK {
			t.Errorf("%d: %v, error %d", i, l, e)
		}
	}
	for i, x := range []struct {
		f    []api.Fd
		want []int64
	}{
		{nil, nil},
		{many(16, shut), nil},
		{many(16, ready), nil},
		{fds(by(0)), []int64{0}},
		{fds(by(9), shut, by(2), ready, by(4), open), []int64{9, 2, 4}},
		{slices.Concat(many(15, shut), fds(by(9))), []int64{9}},
	} {
		if l, e := Waits(x.f); !slices.Equal(l, x.want) || e != api.OK {
			t.Errorf("%d: %v, error %d", i, l, e)
		}
	}
	for i, f := range bad() {
		if l, e := Waits(f); len(l) != 0 || e != api.ErrArg {
			t.Errorf("%d: %v, error %d, of bad descriptors", i, l, e)
		}
	}
}

// P9.2

func TestOpen(t *testing.T) {
	for _, f := range good() {
		for i, d := range f {
			opened, e := Open(f, i)
			if d == shut {
				holds(t, "open", opened, put(f, i, open), e)
			} else {
				zero(t, "open", opened, e, api.ErrThere)
			}
		}
	}
}

func TestShut(t *testing.T) {
	for _, f := range good() {
		for i, d := range f {
			who, left, e := Shut(f, i)
			if d == shut {
				zeroId(t, "shut", who, left, e, api.ErrNone)
				continue
			}
			holds(t, "shut", left, put(f, i, shut), e)
			if who != d.Who {
				t.Errorf("shut: %d waited, and not %d", who, d.Who)
			}
		}
	}
	for _, x := range []struct {
		d   api.Fd
		who int64
	}{{open, -1}, {ready, -1}, {by(0), 0}, {by(7), 7}, {by(math.MaxInt64), math.MaxInt64}} {
		who, left, e := Shut(fds(by(1), x.d, ready), 1)
		holds(t, "shut", left, fds(by(1), shut, ready), e)
		if who != x.who {
			t.Errorf("%v: %d waited", x.d, who)
		}
	}
}

// P9.3

func TestArm(t *testing.T) {
	for _, f := range good() {
		for i, d := range f {
			for _, id := range []int64{0, 7, 999, math.MaxInt64 - 16, math.MaxInt64} {
				now, armed, e := Arm(f, i, id)
				switch {
				case d == shut:
					zeroYes(t, "arm, not open", now, armed, e, api.ErrNone)
				case slices.Contains(ids(f), id):
					zeroYes(t, "arm, waits", now, armed, e, api.ErrThere)
				case d.Who >= 0:
					zeroYes(t, "arm, taken", now, armed, e, api.ErrFull)
				case d == ready:
					holds(t, "arm, ready", armed, put(f, i, open), e)
				default:
					holds(t, "arm", armed, put(f, i, by(id)), e)
				}
				if now != (e == api.OK && d == ready) {
					t.Errorf("arm %d of %v for %d: %t", i, f, id, now)
				}
			}
		}
	}
}

// TestWhichErrorOfArm lets several errors apply at once.
func TestWhichErrorOfArm(t *testing.T) {
	f := fds(by(5), shut, open, ready, by(6))
	for _, x := range []struct {
		i  int
		id int64
		e  api.Errno
	}{
		{0, -1, api.ErrArg}, {1, -1, api.ErrArg}, {2, -1, api.ErrArg}, {3, -1, api.ErrArg}, {2, -2, api.ErrArg}, {3, math.MinInt64, api.ErrArg},
		{-1, 5, api.ErrArg}, {5, 5, api.ErrArg}, {5, 8, api.ErrArg}, {-1, -1, api.ErrArg},
		{1, 5, api.ErrNone}, {1, 6, api.ErrNone}, {1, 8, api.ErrNone},
		{0, 5, api.ErrThere}, {0, 6, api.ErrThere}, {2, 5, api.ErrThere}, {2, 6, api.ErrThere}, {3, 5, api.ErrThere}, {3, 6, api.ErrThere}, {4, 5, api.ErrThere}, {4, 6, api.ErrThere},
		{0, 8, api.ErrFull}, {4, 8, api.ErrFull}, {0, 0, api.ErrFull},
	} {
		now, armed, e := Arm(f, x.i, x.id)
		zeroYes(t, "arm", now, armed, e, x.e)
	}
}

func TestFire(t *testing.T) {
	for _, f := range good() {
		for i, d := range f {
			who, fired, e := Fire(f, i)
			switch {
			case d == shut:
				zeroId(t, "fire, not open", who, fired, e, api.ErrNone)
				continue
			case d.Who >= 0:
				holds(t, "fire, waited for", fired, put(f, i, open), e)
			default:
				holds(t, "fire", fired, put(f, i, ready), e)
			}
			if who != d.Who {
				t.Errorf("fire %d of %v: %d", i, f, who)
			}
		}
	}
}

func TestDrop(t *testing.T) {
	for _, f := range good() {
		for i, d := range f {
			if d.Who >= 0 {
				dropped, e := Drop(f, d.Who)
				holds(t, "drop", dropped, put(f, i, open), e)
			}
		}
		for _, id := range []int64{math.MinInt64, -2, -1, 999, math.MaxInt64 - 16} { // Nobody waits for none as well
			dropped, e := Drop(f, id)
			zero(t, "drop", dropped, e, api.ErrNone)
		}
	}
}

// TestWhatIsNone asks for a descriptor that is none.
func TestWhatIsNone(t *testing.T) {
	for _, f := range good() {
		for _, i := range none(f) {
			opened, e := Open(f, i)
			zero(t, "open", opened, e, api.ErrArg)
			who, left, e := Shut(f, i)
			zeroId(t, "shut", who, left, e, api.ErrArg)
			who, fired, e := Fire(f, i)
			zeroId(t, "fire", who, fired, e, api.ErrArg)
			for _, id := range []int64{-1, 0, 7, 999} {
				now, armed, e := Arm(f, i, id)
				zeroYes(t, "arm", now, armed, e, api.ErrArg)
			}
		}
	}
}

func TestChangesOfBadFds(t *testing.T) {
	for _, f := range bad() {
		for _, i := range []int{-1, 0, 1, 2, 15, 16, 17, math.MaxInt} {
			opened, e := Open(f, i)
			zero(t, "open", opened, e, api.ErrArg)
			who, left, e := Shut(f, i)
			zeroId(t, "shut", who, left, e, api.ErrArg)
			who, fired, e := Fire(f, i)
			zeroId(t, "fire", who, fired, e, api.ErrArg)
			for _, id := range []int64{-2, -1, 0, 5, 999} {
				now, armed, e := Arm(f, i, id)
				zeroYes(t, "arm", now, armed, e, api.ErrArg)
			}
		}
		for _, id := range []int64{math.MinInt64, -2, -1, 0, 5, 999} {
			dropped, e := Drop(f, id)
			zero(t, "drop", dropped, e, api.ErrArg)
		}
	}
}

// R2

// scribble writes over all that a list has, behind its length as well.
func scribble(f []api.Fd) {
	f = f[:cap(f)]
	for i := range f {
		f[i] = api.Fd{Open: true, Ready: true, Who: -77}
	}
}

// TestWhoseIsWhat holds that no call changes what it was handed, and that what it answers is the caller's own.
func TestWhoseIsWhat(t *testing.T) {
	for name, call := range map[string]func([]api.Fd) ([]api.Fd, api.Errno){
		"open":       func(f []api.Fd) ([]api.Fd, api.Errno) { return Open(f, 0) },
		"shut":       func(f []api.Fd) ([]api.Fd, api.Errno) { _, l, e := Shut(f, 1); return l, e },
		"shut who":   func(f []api.Fd) ([]api.Fd, api.Errno) { _, l, e := Shut(f, 3); return l, e },
		"arm":        func(f []api.Fd) ([]api.Fd, api.Errno) { _, l, e := Arm(f, 1, 9); return l, e },
		"arm ready":  func(f []api.Fd) ([]api.Fd, api.Errno) { _, l, e := Arm(f, 2, 9); return l, e },
		"fire":       func(f []api.Fd) ([]api.Fd, api.Errno) { _, l, e := Fire(f, 1); return l, e },
		"fire ready": func(f []api.Fd) ([]api.Fd, api.Errno) { _, l, e := Fire(f, 2); return l, e },
		"fire who":   func(f []api.Fd) ([]api.Fd, api.Errno) { _, l, e := Fire(f, 3); return l, e },
		"drop":       func(f []api.Fd) ([]api.Fd, api.Errno) { return Drop(f, 7) },
	} {
		behind := fds(shut, open, ready, by(7), by(8), by(9))
		f := behind[:4]
		told, e := call(f)
		if e != api.OK || !slices.Equal(behind, fds(shut, open, ready, by(7), by(8), by(9))) {
			t.Errorf("%s: error %d, and %v behind it", name, e, behind)
		}
		again, _ := call(f)
		was := slices.Clone(told)
		scribble(behind)
		if !slices.Equal(told, was) {
			t.Errorf("%s: hangs on what it was handed: %v", name, told)
		}
		scribble(told)
		if !slices.Equal(again, was) {
			t.Errorf("%s: hangs on what was answered ahead: %v", name, again)
		}
	}
}

func TestWhoseIsWhatIsTold(t *testing.T) {
	one, _ := New(16)
	scribble(one)
	if two, _ := New(16); !slices.Equal(two, many(16, shut)) {
		t.Errorf("new: hangs on what was answered ahead: %v", two)
	}
	f := waited(4, 3)
	l, _ := Waits(f)
	scribble(f)
	if !slices.Equal(l, []int64{3, 4, 5, 6}) {
		t.Errorf("waits: hangs on what it was handed: %v", l)
	}
	f = waited(4, 3)
	l, _ = Waits(f)
	l[0] = 88
	if !slices.Equal(f, waited(4, 3)) {
		t.Errorf("waits: %v", f)
	}
}
