package idle

import (
	"math"
	"slices"
	"testing"

	"ravel/api"
)

// The bounds of the document's words, and what a worker may be, which stand here as numbers of their own.
const (
	mostWorkers = 64
	awake       = 0
	spinning    = 1
	announced   = 2
	parked      = 3
)

// of are workers: what each one is, and their Stack.
func of(is []int, stack ...int) api.Idle { return api.Idle{Is: is, Stack: stack} }

// many are so many of the same.
func many(n, what int) []int { return slices.Repeat([]int{what}, n) }

// who are those that are something.
func who(is []int, what int) []int {
	var l []int
	for i, x := range is {
		if x == what {
			l = append(l, i)
		}
	}
	return l
}

// resting are those that are about to park, or have, in order.
func resting(is []int) []int {
	l := slices.Concat(who(is, announced), who(is, parked))
	slices.Sort(l)
	return l
}

// fewSpin tells by the words of the document alone whether no more spin than may.
func fewSpin(is []int) bool {
	return len(who(is, spinning))*2 <= len(is)-len(who(is, parked))+1
}

// mayBe tells by the words of the document alone whether workers may be.
func mayBe(d api.Idle) bool {
	if len(d.Is) < 1 || len(d.Is) > mostWorkers {
		return false
	}
	for _, x := range d.Is {
		if x != awake && x != spinning && x != announced && x != parked {
			return false
		}
	}
	return slices.Equal(slices.Sorted(slices.Values(d.Stack)), resting(d.Is)) && fewSpin(d.Is)
}

// lists are all lists of so many numbers from the first one up to the last one.
func lists(n, first, last int) [][]int {
	all := [][]int{{}}
	for range n {
		var longer [][]int
		for _, l := range all {
			for x := first; x <= last; x++ {
				longer = append(longer, append(slices.Clone(l), x))
			}
		}
		all = longer
	}
	return all
}

// orders are all orders of a list.
func orders(l []int) [][]int {
	if len(l) == 0 {
		return [][]int{nil}
	}
	var all [][]int
	for i, x := range l {
		for _, rest := range orders(slices.Concat(l[:i], l[i+1:])) {
			all = append(all, append([]int{x}, rest...))
		}
	}
	return all
}

// small are all up to four workers that may be.
func small() []api.Idle {
	var l []api.Idle
	for n := 1; n <= 4; n++ {
		for _, is := range lists(n, awake, parked) {
			if !fewSpin(is) {
				continue
			}
			for _, stack := range orders(resting(is)) {
				l = append(l, of(is, stack...))
			}
		}
	}
	return l
}

// large are workers that may be, of which there are many: none rests, all do, some do, and as many spin as may, or one fewer; they stand in Stack from either end.
func large() []api.Idle {
	var l []api.Idle
	for _, n := range []int{5, 8, 31, 32, 63, mostWorkers} {
		for _, rest := range []int{0, 1, n / 3, n / 2, n - 2, n - 1, n} {
			for _, every := range []int{1, 2, n + 1} {
				is := many(n, awake)
				for i := range rest {
					is[n-1-i] = parked
					if i%every == every-1 {
						is[n-1-i] = announced
					}
				}
				most := (n - len(who(is, parked)) + 1) / 2
				for _, spin := range []int{0, most - 1, most} {
					some := slices.Clone(is)
					for i := range min(spin, n-rest) {
						some[i] = spinning
					}
					back := resting(some)
					slices.Reverse(back)
					l = append(l, of(some, resting(some)...), of(some, back...))
				}
			}
		}
	}
	return slices.DeleteFunc(l, func(d api.Idle) bool { return !fewSpin(d.Is) })
}

func good() []api.Idle { return append(small(), large()...) }

// bad are workers that may not be.
func bad() []api.Idle {
	l := []api.Idle{{}, of([]int{}), of(nil, 0), of(many(65, awake)), of(many(66, awake)), of(many(128, awake)), of(many(256, awake)), of(many(257, awake)), of(many(1<<16+1, awake))}
	for _, what := range []int{-1, -2, 4, 5, 256, 257, 1 << 32, 1<<32 + 1, math.MaxInt, math.MinInt, math.MinInt + 1} {
		l = append(l, of([]int{what}), of([]int{what}, 0), of([]int{0, what, 0}), of([]int{0, 0, what}, 2), of(append(many(63, awake), what)))
	}
	for _, i := range []int{-1, -2, 2, 3, 64, 256, 257, 1 << 32, 1<<32 + 1, math.MaxInt, math.MinInt, math.MinInt + 1} {
		l = append(l, of([]int{0, 2}, i), of([]int{0, 3}, i), of([]int{0, 3}, 1, i), of([]int{0, 3}, i, 1), of([]int{3, 2}, i, 1))
	}
	l = append(l, of([]int{2}), of([]int{3}), of([]int{0}, 0), of([]int{1}, 0), of([]int{2, 3}, 0), of([]int{2, 3}, 1))
	l = append(l, of([]int{2, 3}, 0, 0), of([]int{2, 3}, 1, 1), of([]int{2, 3}, 0, 1, 0), of([]int{2, 3}, 0, 1, 1), of([]int{2, 0}, 1), of([]int{2, 0}, 0, 1))
	l = append(l, of([]int{1, 1}), of([]int{1, 1, 1}), of([]int{1, 1, 3}, 2), of([]int{1, 1, 3, 3}, 2, 3), of([]int{1, 3, 1}, 1), of(append(many(33, spinning), many(31, awake)...)))
	l = append(l, of(many(64, spinning)), of(many(64, parked)), of(many(64, parked), many(64, 0)...), of(many(64, awake), many(64, 0)...), of([]int{0, 0}, many(1<<16, 0)...))
	for _, n := range []int{64, 65} {
		l = append(l, of(many(n, parked), resting(many(n+1, parked))...), of(many(n, parked), resting(many(n-1, parked))...))
	}
	return append(l, of(many(65, parked), resting(many(65, parked))...), of(many(65, announced), resting(many(65, announced))...))
}

// nowhere are places at which none of so many is.
func nowhere(n int) []int {
	return []int{-1, -2, -n, -n - 1, n, n + 1, 64, 65, 256, 1 << 16, 1 << 32, math.MaxInt, math.MinInt, math.MinInt + 1}
}

// holds holds that workers are as is wanted, without an error.
func holds(t *testing.T, name string, d, want api.Idle, e api.Errno) {
	t.Helper()
	if !slices.Equal(d.Is, want.Is) || !slices.Equal(d.Stack, want.Stack) || e != api.OK {
		t.Errorf("%s: %v, error %d, and not %v", name, d, e, want)
	}
}

// zero holds that there is an error, and nothing beside it.
func zero(t *testing.T, name string, d api.Idle, e, want api.Errno) {
	t.Helper()
	if len(d.Is) != 0 || len(d.Stack) != 0 || e != want {
		t.Errorf("%s: %v, error %d, and not error %d", name, d, e, want)
	}
}

// with are workers one of whom is something, and whose Stack is one that is handed in.
func with(d api.Idle, i, what int, stack []int) api.Idle {
	is := slices.Clone(d.Is)
	is[i] = what
	return api.Idle{Is: is, Stack: stack}
}

// without is a list without one.
func without(l []int, i int) []int {
	var left []int
	for _, x := range l {
		if x != i {
			left = append(left, x)
		}
	}
	return left
}

// P17.1

func TestNew(t *testing.T) {
	for n := 1; n <= mostWorkers; n++ {
		d, e := New(n)
		holds(t, "new", d, of(make([]int, n)), e)
		if Check(d) != api.OK {
			t.Errorf("%d new ones may not be", n)
		}
	}
	for _, n := range []int{0, -1, -2, -64, 65, 66, 128, 256, 257, 1<<16 + 3, 1<<32 + 3, math.MaxInt, math.MinInt, math.MinInt + 3} {
		d, e := New(n)
		zero(t, "new", d, e, api.ErrArg)
	}
}

func TestCheck(t *testing.T) {
	for _, d := range good() {
		if e := Check(d); e != api.OK || !mayBe(d) {
			t.Errorf("%v: error %d", d, e)
		}
	}
	for _, d := range bad() {
		if e := Check(d); e != api.ErrArg || mayBe(d) {
			t.Errorf("%v: error %d", d, e)
		}
	}
}

// TestCheckAll holds all up to three workers, of all kinds that there are, and one at each edge that there is not, with all Stacks of up to four numbers, against the document's words.
func TestCheckAll(t *testing.T) {
	for n := range 4 {
		var stacks [][]int
		for m := range 5 {
			stacks = append(stacks, lists(m, -1, n)...)
		}
		for _, is := range lists(n, -1, 4) {
			for _, stack := range stacks {
				d, want := of(is, stack...), api.ErrArg
				if mayBe(d) {
					want = api.OK
				}
				if e := Check(d); e != want {
					t.Fatalf("%v: error %d, and not %d", d, e, want)
				}
			}
		}
	}
}

// TestCheckHowManySpin holds how many may spin of each count of workers, whether the others are awake, about to park, or some of them parked.
func TestCheckHowManySpin(t *testing.T) {
	for n := 1; n <= mostWorkers; n++ {
		for spin := range n + 1 {
			for park := range n - spin + 1 {
				for _, other := range []int{awake, announced} {
					d := of(slices.Concat(many(spin, spinning), many(park, parked), many(n-spin-park, other)))
					d.Stack = resting(d.Is)
					want := api.OK
					if spin > (n-park+1)/2 {
						want = api.ErrArg
					}
					if e := Check(d); e != want {
						t.Fatalf("%d spin, and %d are parked of %d: error %d", spin, park, n, e)
					}
				}
			}
		}
	}
}

func TestCount(t *testing.T) {
	for _, d := range good() {
		for what := range 4 {
			if n, e := Count(d, what); n != len(who(d.Is, what)) || e != api.OK {
				t.Errorf("%v: %d are %d, error %d", d, n, what, e)
			}
		}
		for _, what := range []int{-1, -2, 4, 5, 256, 1 << 32, 1<<32 + 1, math.MaxInt, math.MinInt, math.MinInt + 1} {
			if n, e := Count(d, what); n != 0 || e != api.ErrArg {
				t.Errorf("%v: %d are %d, error %d", d, n, what, e)
			}
		}
	}
	for _, d := range bad() {
		for what := -1; what <= 4; what++ {
			if n, e := Count(d, what); n != 0 || e != api.ErrArg {
				t.Errorf("%v: %d are %d, error %d", d, n, what, e)
			}
		}
	}
}

func TestSame(t *testing.T) {
	some := append(append(small(), large()[:40]...), bad()[:80]...)
	for i, a := range some {
		if !Same(a, api.Idle{Is: slices.Clone(a.Is), Stack: slices.Clone(a.Stack)}) {
			t.Errorf("%v is not itself", a)
		}
		for j := i % 7; j < len(some); j += 7 {
			b := some[j]
			if Same(a, b) != (slices.Compare(a.Is, b.Is) == 0 && slices.Compare(a.Stack, b.Stack) == 0) {
				t.Fatalf("%v and %v: %t", a, b, Same(a, b))
			}
		}
	}
	for _, x := range []struct {
		a, b api.Idle
		same bool
	}{
		{api.Idle{}, of([]int{}), true},
		{of([]int{0}), api.Idle{Is: []int{0}, Stack: []int{}}, true},
		{of([]int{0}), of([]int{0, 0}), false},
		{of([]int{0, 0}), of([]int{0}), false},
		{of([]int{0, 1}), of([]int{1, 0}), false},
		{of([]int{0, 1}), of([]int{0, 0}), false},
		{of([]int{3, 3}, 0, 1), of([]int{3, 3}, 1, 0), false},
		{of([]int{3, 3}, 0, 1), of([]int{3, 3}, 0), false},
		{of([]int{3, 3}, 0), of([]int{3, 3}, 0, 1), false},
		{of([]int{2, 3}, 0, 1), of([]int{3, 2}, 0, 1), false},
		{of([]int{3}, 0), of([]int{3}), false},
		{of([]int{7}, 9), of([]int{7}, 9), true},
		{of([]int{1}), of([]int{1<<32 + 1}), false},
		{of([]int{3}, 0), of([]int{3}, 1<<32), false},
	} {
		if Same(x.a, x.b) != x.same {
			t.Errorf("%v and %v: %t", x.a, x.b, !x.same)
		}
	}
}

// P17.2

// TestOfTwoOneMaySpin is the document's example.
func TestOfTwoOneMaySpin(t *testing.T) {
	for first := range 2 {
		d, _ := New(2)
		yes, d, e := Spin(d, first)
		holds(t, "the first one", d, with(of([]int{0, 0}), first, spinning, nil), e)
		no, then, e := Spin(d, 1-first)
		holds(t, "the second one", then, d, e)
		if !yes || no {
			t.Errorf("%d: %t, %t", first, yes, no)
		}
	}
}

func TestSpin(t *testing.T) {
	for _, d := range good() {
		for i, was := range d.Is {
			yes, next, e := Spin(d, i)
			if was != awake {
				zero(t, "not awake", next, e, api.ErrState)
				if yes {
					t.Errorf("%v: %d may spin", d, i)
				}
				continue
			}
			want := with(d, i, spinning, d.Stack)
			may := fewSpin(want.Is)
			if !may {
				want = d
			}
			holds(t, "spin", next, want, e)
			if yes != may {
				t.Errorf("%v: %d may spin: %t", d, i, yes)
			}
		}
	}
}

// TestHowManySpin lets all spin, one by one, of each count of workers, of whom each count is parked: so many may as are half of those that are not parked, the greater half.
func TestHowManySpin(t *testing.T) {
	for n := 1; n <= mostWorkers; n++ {
		for park := range n + 1 {
			d := of(slices.Concat(many(n-park, awake), many(park, parked)))
			d.Stack = resting(d.Is)
			for i := range n - park {
				yes, next, e := Spin(d, i)
				if yes != (i < (n-park+1)/2) || e != api.OK || Check(next) != api.OK {
					t.Fatalf("%d of %d, of whom %d are parked: %t, error %d", i, n, park, yes, e)
				}
				d = next
			}
		}
	}
}

func TestFound(t *testing.T) {
	for _, d := range good() {
		for i, was := range d.Is {
			next, e := Found(d, i)
			if was == parked {
				zero(t, "parked", next, e, api.ErrState)
				continue
			}
			holds(t, "found", next, with(d, i, awake, without(d.Stack, i)), e)
		}
	}
}

// P17.3

func TestAnnounce(t *testing.T) {
	for _, d := range good() {
		for i, was := range d.Is {
			next, e := Announce(d, i)
			if was == announced || was == parked {
				zero(t, "rests", next, e, api.ErrState)
				continue
			}
			holds(t, "announce", next, with(d, i, announced, append(slices.Clone(d.Stack), i)), e)
		}
	}
}

func TestPark(t *testing.T) {
	for _, d := range good() {
		for i, was := range d.Is {
			next, e := Park(d, i)
			want := with(d, i, parked, d.Stack)
			if was != announced || !fewSpin(want.Is) {
				zero(t, "may not park", next, e, api.ErrState)
				continue
			}
			holds(t, "park", next, want, e)
		}
	}
}

// TestParkByHand holds some that were reckoned by hand: whether one may park hangs on how many spin beside those that are left.
func TestParkByHand(t *testing.T) {
	for _, x := range []struct {
		d   api.Idle
		i   int
		may bool
	}{
		{of([]int{2}, 0), 0, true},
		{of([]int{1, 2}, 1), 1, true},
		{of([]int{1, 1, 2}, 2), 2, false},
		{of([]int{1, 2, 1}, 1), 1, false},
		{of([]int{0, 1, 1, 2}, 3), 3, true},
		{of([]int{2, 1, 1, 2}, 3, 0), 3, true},
		{of([]int{2, 1, 1, 3}, 3, 0), 0, false},
		{of([]int{2, 1, 0, 3}, 3, 0), 0, true},
		{of([]int{2, 1, 3, 3}, 3, 0, 2), 0, true},
	} {
		next, e := Park(x.d, x.i)
		if x.may {
			holds(t, "park", next, with(x.d, x.i, parked, x.d.Stack), e)
		} else {
			zero(t, "may not park", next, e, api.ErrState)
		}
	}
}

// TestHowManyPark holds of each count of workers, of whom each count that may spin does and all others are about to park, that so many of these park as may.
func TestHowManyPark(t *testing.T) {
	for n := 1; n <= mostWorkers; n++ {
		for spin := range (n+1)/2 + 1 {
			d := of(slices.Concat(many(spin, spinning), many(n-spin, announced)))
			d.Stack = resting(d.Is)
			for i := spin; i < n; i++ {
				next, e := Park(d, i)
				if left := n - (i - spin) - 1; 2*spin > left+1 {
					zero(t, "may not park", next, e, api.ErrState)
					continue
				}
				holds(t, "park", next, with(d, i, parked, d.Stack), e)
				d = next
			}
		}
	}
}

// P17.4

func TestWake(t *testing.T) {
	for _, d := range good() {
		i, next, e := Wake(d)
		if len(d.Stack) == 0 {
			zero(t, "nobody to wake", next, e, api.ErrNone)
			if i != 0 {
				t.Errorf("%v: %d is waked", d, i)
			}
			continue
		}
		last := d.Stack[len(d.Stack)-1]
		holds(t, "wake", next, with(d, last, awake, d.Stack[:len(d.Stack)-1]), e)
		if i != last {
			t.Errorf("%v: %d is waked", d, i)
		}
	}
}

// Wrong inputs

// changes are all calls that change one; whether it may spin is told as a number.
func changes() map[string]func(d api.Idle, i int) (int, api.Idle, api.Errno) {
	plain := func(change func(d api.Idle, i int) (api.Idle, api.Errno)) func(d api.Idle, i int) (int, api.Idle, api.Errno) {
		return func(d api.Idle, i int) (int, api.Idle, api.Errno) {
			next, e := change(d, i)
			return 0, next, e
		}
	}
	return map[string]func(d api.Idle, i int) (int, api.Idle, api.Errno){
		"spin": func(d api.Idle, i int) (int, api.Idle, api.Errno) {
			yes, next, e := Spin(d, i)
			if yes {
				return 1, next, e
			}
			return 0, next, e
		},
		"found":    plain(Found),
		"announce": plain(Announce),
		"park":     plain(Park),
	}
}

func TestChangesOfBadWorkers(t *testing.T) {
	for name, change := range changes() {
		for _, d := range bad() {
			for _, i := range append(nowhere(len(d.Is)), 0, 1, 2, len(d.Is)-1) {
				n, next, e := change(d, i)
				zero(t, name, next, e, api.ErrArg)
				if n != 0 {
					t.Errorf("%s of %v: yes", name, d)
				}
			}
		}
	}
	for _, d := range bad() {
		i, next, e := Wake(d)
		zero(t, "wake", next, e, api.ErrArg)
		if i != 0 {
			t.Errorf("%v: %d is waked", d, i)
		}
	}
}

func TestChangesOfNobody(t *testing.T) {
	for name, change := range changes() {
		for _, d := range good() {
			for _, i := range nowhere(len(d.Is)) {
				if i >= 0 && i < len(d.Is) {
					continue
				}
				n, next, e := change(d, i)
				zero(t, name, next, e, api.ErrArg)
				if n != 0 {
					t.Errorf("%s of %d of %v: yes", name, i, d)
				}
			}
		}
	}
}

// R2

// TestWhoseIsWhat holds that no call changes what it was handed, nor what stands behind that, and that what it answers is the caller's own.
func TestWhoseIsWhat(t *testing.T) {
	calls := changes()
	calls["wake"] = func(d api.Idle, _ int) (int, api.Idle, api.Errno) { return Wake(d) }
	for name, call := range calls {
		for _, was := range []api.Idle{of([]int{0, 1, 2, 3, 0}, 3, 2), of([]int{0, 1, 2, 2}, 2, 3), of([]int{1, 0}), of([]int{3, 1, 2, 0, 1, 0}, 0, 2)} {
			for i := range was.Is {
				ownOf(t, name, was, func(d api.Idle) (api.Idle, api.Errno) {
					_, next, e := call(d, i)
					return next, e
				})
			}
		}
	}
	for range 2 {
		d, _ := New(5)
		holds(t, "new", d, of(many(5, awake)), api.OK)
		for i := range d.Is {
			d.Is[i] = 9
		}
	}
}

// ownOf holds that of one call.
func ownOf(t *testing.T, name string, was api.Idle, call func(d api.Idle) (api.Idle, api.Errno)) {
	t.Helper()
	// Behind each list there is room, into which nothing may be written.
	roomIs, roomStack := append(slices.Clone(was.Is), 7, 7, 7), append(slices.Clone(was.Stack), 7, 7, 7)
	wholeIs, wholeStack := slices.Clone(roomIs), slices.Clone(roomStack)
	d := api.Idle{Is: roomIs[:len(was.Is)], Stack: roomStack[:len(was.Stack)]}
	told, e := call(d)
	again, _ := call(d)
	if !slices.Equal(roomIs, wholeIs) || !slices.Equal(roomStack, wholeStack) {
		t.Fatalf("%s of %v changes what it was handed", name, was)
	}
	if e != api.OK {
		return
	}
	kept := api.Idle{Is: slices.Clone(told.Is), Stack: slices.Clone(told.Stack)}
	for _, l := range [][]int{roomIs, roomStack} {
		for i := range l {
			l[i] = 8
		}
	}
	holds(t, name+", written into what was handed in", told, kept, e)
	for _, l := range [][]int{told.Is[:cap(told.Is)], told.Stack[:cap(told.Stack)]} {
		for i := range l {
			l[i] = 9
		}
	}
	holds(t, name+", written into what was answered ahead", again, kept, e)
	if slices.Contains(roomIs, 9) || slices.Contains(roomStack, 9) {
		t.Errorf("%s of %v hands out what it was handed", name, was)
	}
	for i := range again.Is[:cap(again.Is)] {
		again.Is[:cap(again.Is)][i] = 9
	}
	if !slices.Equal(again.Stack, kept.Stack) {
		t.Errorf("%s of %v: its lists share", name, was)
	}
}
