package dice

import (
	"math"
	"slices"
	"testing"

	"ravel/api"
)

// noFaces are numbers below which nothing is drawn, noOrders lengths of which no order is.
var (
	noFaces  = []int{math.MinInt, -65536, -1, 0, api.MaxFaces + 1, math.MaxInt}
	noOrders = []int{math.MinInt, -256, -1, api.MaxOrder + 1, math.MaxInt}
)

func of(octets ...byte) api.Dice { return api.Dice{L: octets} }

// odd are five octets, of which any may be the first one.
func odd(at int) api.Dice { return api.Dice{L: []byte{1, 2, 0, 3, 9}, At: at} }

// bad are dice that may not be.
func bad() []api.Dice {
	return []api.Dice{
		{At: -1}, {At: 1}, {At: math.MinInt}, {At: math.MaxInt},
		{L: []byte{}, At: 1}, odd(-1), odd(6), odd(7), odd(math.MinInt), odd(math.MaxInt),
	}
}

// mixed are octets of all kinds, by a short rule.
func mixed(n int) []byte {
	l, seed := make([]byte, n), uint32(1)
	for i := range l {
		seed = seed*1664525 + 1013904223
		l[i] = byte(seed >> 24)
	}
	return l
}

func clone(d api.Dice) api.Dice { return api.Dice{L: slices.Clone(d.L), At: d.At} }

func equal(a, b api.Dice) bool { return a.At == b.At && slices.Equal(a.L, b.L) }

// moved are the dice after so many draws, by the words of the document alone.
func moved(d api.Dice, draws int) api.Dice {
	return api.Dice{L: d.L, At: min(d.At+2*draws, len(d.L))}
}

// draw is the k-th draw of dice, by the words of the document alone.
func draw(d api.Dice, k int) int {
	octet := func(i int) int {
		if i < len(d.L) {
			return int(d.L[i])
		}
		return 0
	}
	return octet(d.At+2*k)*256 + octet(d.At+2*k+1)
}

// zero holds that there is an error, and all else is zero beside it.
func zero(t *testing.T, name string, n int, d api.Dice, e, want api.Errno) {
	t.Helper()
	if n != 0 || d.At != 0 || len(d.L) != 0 || e != want {
		t.Errorf("%s: %d, %v, error %d, and not error %d", name, n, d, e, want)
	}
}

// P3.1

func TestCheck(t *testing.T) {
	for i, d := range []api.Dice{{}, {L: []byte{}}, of(0), {L: []byte{7}, At: 1}, odd(0), odd(1), odd(4), odd(5), {L: make([]byte, api.MaxFaces+1), At: api.MaxFaces + 1}} {
		if e := Check(d); e != api.OK {
			t.Errorf("%d: error %d", i, e)
		}
	}
	for i, d := range bad() {
		if e := Check(d); e != api.ErrArg {
			t.Errorf("%d: error %d", i, e)
		}
	}
}

func TestSame(t *testing.T) {
	for i, x := range []struct {
		a, b api.Dice
		is   bool
	}{
		{api.Dice{}, api.Dice{}, true},
		{api.Dice{}, api.Dice{L: []byte{}}, true},
		{of(1, 2), of(1, 2), true},
		{odd(3), odd(3), true},
		{odd(5), odd(5), true},
		{odd(-1), odd(-1), true},
		{odd(3), odd(4), false},
		{odd(3), odd(-3), false},
		{api.Dice{}, api.Dice{At: 1}, false},
		{api.Dice{}, of(0), false},
		{of(1), of(2), false},
		{of(1, 2), of(1, 3), false},
		{of(1, 2), of(2, 1), false},
		{of(1, 2), of(1, 2, 0), false},
		{of(1, 2), of(1), false},
		// What was taken is a part too, though nothing is drawn of it any more.
		{api.Dice{L: []byte{1, 5}, At: 1}, api.Dice{L: []byte{2, 5}, At: 1}, false},
		{api.Dice{L: []byte{1, 5}, At: 1}, of(5), false},
	} {
		if Same(x.a, x.b) != x.is || Same(x.b, x.a) != x.is {
			t.Errorf("%d: %v, %v: not %t", i, x.a, x.b, x.is)
		}
	}
}

func TestBelow(t *testing.T) {
	for i, x := range []struct {
		d          api.Dice
		m, n, next int
	}{
		{of(0, 7), 10, 7, 2},
		{of(0, 7), 7, 0, 2},
		{of(0, 7), 5, 2, 2},
		{of(0, 7), 1, 0, 2},
		{of(7, 0), 65536, 1792, 2},
		{of(255, 255), 65536, 65535, 2},
		{of(255, 255), 65535, 0, 2},
		{of(255, 254), 65535, 65534, 2},
		{of(255, 255), 1, 0, 2},
		{of(1, 0), 256, 0, 2},
		{of(1, 0), 257, 256, 2},
		{of(0, 7, 0, 9), 10, 7, 2},
		{odd(0), 1000, 258, 2},
		{odd(1), 1000, 512, 3},
		{odd(2), 1000, 3, 4},
		{odd(3), 1000, 777, 5},
		// Behind the last octet an octet is 0, and At stays there.
		{odd(4), 65536, 2304, 5},
		{odd(4), 1000, 304, 5},
		{odd(5), 1000, 0, 5},
		{of(5), 65536, 1280, 1},
		{of(), 65536, 0, 0},
		{api.Dice{}, 1, 0, 0},
	} {
		n, then, e := Below(x.d, x.m)
		if want := (api.Dice{L: x.d.L, At: x.next}); n != x.n || !equal(then, want) || e != api.OK {
			t.Errorf("%d: %d, %v, error %d", i, n, then, e)
		}
	}
}

// TestBelowOfAllDraws goes through all draws, below some numbers.
func TestBelowOfAllDraws(t *testing.T) {
	for _, m := range []int{1, 2, 3, 10, 255, 256, 257, 32768, 65535, 65536} {
		for x := range 65536 {
			if n, then, e := Below(of(byte(x/256), byte(x%256)), m); n != x%m || then.At != 2 || e != api.OK {
				t.Fatalf("%d below %d: %d, at %d, error %d", x, m, n, then.At, e)
			}
		}
	}
}

// TestOneAfterTheOther draws until there are no octets any more, and beyond.
func TestOneAfterTheOther(t *testing.T) {
	for _, first := range []api.Dice{{L: mixed(40)}, {L: mixed(41)}, {L: mixed(41), At: 1}, {L: mixed(1)}, {}} {
		d := first
		for k := range 30 {
			m := 1 + k*k*70
			n, then, e := Below(d, m)
			if n != draw(first, k)%m || !equal(then, moved(first, k+1)) || e != api.OK {
				t.Fatalf("%d octets, draw %d below %d: %d, at %d, error %d", len(first.L), k, m, n, then.At, e)
			}
			d = then
		}
	}
}

func TestBelowOfWhatMayNotBe(t *testing.T) {
	for _, d := range []api.Dice{{}, odd(0), odd(5)} {
		for _, m := range noFaces {
			n, then, e := Below(d, m)
			zero(t, "no faces", n, then, e, api.ErrArg)
		}
	}
	for _, d := range bad() {
		for _, m := range append(noFaces, 1, 2, api.MaxFaces) {
			n, then, e := Below(d, m)
			zero(t, "bad dice", n, then, e, api.ErrArg)
		}
	}
}

// P3.2

func TestOrder(t *testing.T) {
	for i, x := range []struct {
		d    api.Dice
		n    int
		l    []int
		next int
	}{
		{of(9, 9), 0, nil, 0},
		{of(9, 9), 1, []int{0}, 0},
		{api.Dice{}, 0, nil, 0},
		{api.Dice{}, 1, []int{0}, 0},
		{of(0, 0), 2, []int{1, 0}, 2},
		{of(0, 1), 2, []int{0, 1}, 2},
		{of(1, 0), 2, []int{1, 0}, 2},
		{of(1, 1), 2, []int{0, 1}, 2},
		// All orders of three.
		{of(0, 0, 0, 0), 3, []int{1, 2, 0}, 4},
		{of(0, 0, 0, 1), 3, []int{2, 1, 0}, 4},
		{of(0, 1, 0, 0), 3, []int{2, 0, 1}, 4},
		{of(0, 1, 0, 1), 3, []int{0, 2, 1}, 4},
		{of(0, 2, 0, 0), 3, []int{1, 0, 2}, 4},
		{of(0, 2, 0, 1), 3, []int{0, 1, 2}, 4},
		// The first draw is one below 3, and the second one below 2.
		{of(0, 5, 0, 3), 3, []int{0, 1, 2}, 4},
		{of(1, 0, 0, 2), 3, []int{2, 0, 1}, 4},
		{of(0, 1, 0, 0, 0, 1), 4, []int{2, 3, 0, 1}, 6},
		{of(0, 1, 0, 0, 0, 1, 8, 8), 4, []int{2, 3, 0, 1}, 6},
		// From At on.
		{odd(0), 3, []int{2, 1, 0}, 4},
		{odd(1), 3, []int{0, 1, 2}, 5},
		{odd(2), 3, []int{1, 2, 0}, 5},
		// The octets end within a draw, between two, and before all.
		{odd(4), 3, []int{1, 2, 0}, 5},
		{of(0, 2, 1), 3, []int{1, 0, 2}, 3},
		{of(0, 1), 3, []int{2, 0, 1}, 2},
		{odd(5), 3, []int{1, 2, 0}, 5},
		{api.Dice{}, 3, []int{1, 2, 0}, 0},
		{api.Dice{}, 5, []int{1, 2, 3, 4, 0}, 0},
	} {
		l, then, e := Order(x.d, x.n)
		if want := (api.Dice{L: x.d.L, At: x.next}); !slices.Equal(l, x.l) || !equal(then, want) || e != api.OK {
			t.Errorf("%d: %v, %v, error %d", i, l, then, e)
		}
	}
}

// TestOrderOfAllLengths holds orders of all lengths against what each draw does, taken out of the octets one by one; some end before all is drawn.
func TestOrderOfAllLengths(t *testing.T) {
	for n := range api.MaxOrder + 1 {
		for _, d := range []api.Dice{{L: mixed(600)}, {L: mixed(600), At: 77}, {L: mixed(n)}, {L: mixed(n + 1), At: n / 3}} {
			want := make([]int, n)
			for i := range want {
				want[i] = i
			}
			for i := n - 1; i >= 1; i-- {
				j := draw(d, n-1-i) % (i + 1)
				want[i], want[j] = want[j], want[i]
			}
			l, then, e := Order(d, n)
			if !slices.Equal(l, want) || !equal(then, moved(d, max(n-1, 0))) || e != api.OK {
				t.Fatalf("%d octets from %d on, of %d: %v, at %d, error %d, and not %v", len(d.L), d.At, n, l, then.At, e, want)
			}
		}
	}
}

func TestOrderOfWhatMayNotBe(t *testing.T) {
	for _, d := range []api.Dice{{}, odd(0), odd(5)} {
		for _, n := range noOrders {
			l, then, e := Order(d, n)
			zero(t, "no length", len(l), then, e, api.ErrArg)
		}
	}
	for _, d := range bad() {
		for _, n := range append(noOrders, 0, 1, 3, api.MaxOrder) {
			l, then, e := Order(d, n)
			zero(t, "bad dice", len(l), then, e, api.ErrArg)
		}
	}
}

// P3.3

// times is a weight, so many times.
func times(x, n int) []int { return slices.Repeat([]int{x}, n) }

func TestHeavy(t *testing.T) {
	for i, x := range []struct {
		d        api.Dice
		w        []int
		at, next int
	}{
		{of(0, 0), []int{2, 0, 3}, 0, 2},
		{of(0, 1), []int{2, 0, 3}, 0, 2},
		{of(0, 2), []int{2, 0, 3}, 2, 2},
		{of(0, 4), []int{2, 0, 3}, 2, 2},
		{of(0, 5), []int{2, 0, 3}, 0, 2},
		{of(1, 1), []int{2, 0, 3}, 2, 2},
		{of(0, 0), []int{0, 0, 1, 0}, 2, 2},
		{of(9, 9), []int{0, 0, 1, 0}, 2, 2},
		{of(0, 0), []int{1, 1, 1}, 0, 2},
		{of(0, 1), []int{1, 1, 1}, 1, 2},
		{of(0, 2), []int{1, 1, 1}, 2, 2},
		// One weight is drawn as well.
		{of(3, 4, 5), []int{1}, 0, 2},
		{of(255, 255), []int{65536}, 0, 2},
		{of(255, 255), []int{65535, 1}, 1, 2},
		{of(255, 254), []int{65535, 1}, 0, 2},
		{of(0, 0), []int{1, 65535}, 0, 2},
		{of(0, 1), []int{1, 65535}, 1, 2},
		{of(0, 0), []int{0, 65536}, 1, 2},
		// As many as there may be.
		{of(255, 255), times(256, 256), 255, 2},
		{of(1, 0), times(256, 256), 1, 2},
		{of(0, 255), times(256, 256), 0, 2},
		{of(0, 9), append(times(0, 255), 4), 255, 2},
		// From At on, and behind the last octet.
		{odd(1), []int{511, 1, 2}, 2, 3},
		{odd(1), []int{512, 1, 2}, 1, 3},
		{odd(3), []int{777, 1, 2}, 1, 5},
		{odd(4), []int{2304, 1, 2}, 1, 5},
		{odd(5), []int{0, 0, 7, 1}, 2, 5},
		{api.Dice{}, []int{0, 7, 1}, 1, 0},
	} {
		w := slices.Clone(x.w)
		at, then, e := Heavy(x.d, w...)
		if want := (api.Dice{L: x.d.L, At: x.next}); at != x.at || !equal(then, want) || e != api.OK {
			t.Errorf("%d: %d, %v, error %d", i, at, then, e)
		}
		if !slices.Equal(w, x.w) {
			t.Errorf("%d: changed the weights that were handed in: %v", i, w)
		}
	}
}

// TestHeavyByWeight goes through as many draws as there are weights together: each place is chosen as often as its weight says, one after the other.
func TestHeavyByWeight(t *testing.T) {
	for i, w := range [][]int{{1}, {5}, {1, 2, 3}, {3, 2, 1}, {0, 4, 0, 0, 2, 0}, {100, 1, 300, 0, 7}, times(3, 256), {65536}, {65535, 1}, {1, 0, 65535}, times(256, 256)} {
		var want []int
		for place, x := range w {
			want = append(want, times(place, x)...)
		}
		for n, place := range want {
			if at, _, e := Heavy(of(byte(n/256), byte(n%256)), w...); at != place || e != api.OK {
				t.Fatalf("%d, by a draw of %d: %d, error %d, and not %d", i, n, at, e, place)
			}
		}
	}
}

func TestHeavyOfWhatMayNotBe(t *testing.T) {
	for i, x := range []struct {
		w []int
		e api.Errno
	}{
		{nil, api.ErrNone},
		{[]int{}, api.ErrNone},
		{[]int{0}, api.ErrNone},
		{[]int{0, 0, 0}, api.ErrNone},
		{times(0, 256), api.ErrNone},
		{[]int{65536, 1}, api.ErrLarge},
		{[]int{1, 65536}, api.ErrLarge},
		{[]int{32768, 1, 32768}, api.ErrLarge},
		{times(257, 256), api.ErrLarge},
		{times(65536, 256), api.ErrLarge},
		{[]int{-1}, api.ErrArg},
		{[]int{1, -1}, api.ErrArg},
		{[]int{-1, 1}, api.ErrArg},
		{[]int{2, -1, 2}, api.ErrArg},
		{[]int{math.MinInt, 1}, api.ErrArg},
		{[]int{65537}, api.ErrArg},
		{[]int{1, 65537, 1}, api.ErrArg},
		{[]int{math.MaxInt, math.MaxInt}, api.ErrArg},
		{times(1, 257), api.ErrArg},
		// ErrArg comes ahead of ErrLarge, and of ErrNone.
		{[]int{65536, 65536, -1}, api.ErrArg},
		{[]int{65536, 65536, 65537}, api.ErrArg},
		{[]int{65536, -1}, api.ErrArg},
		{[]int{1, -1, 0}, api.ErrArg},
		{times(0, 257), api.ErrArg},
		{times(65536, 257), api.ErrArg},
		{times(256, 257), api.ErrArg},
	} {
		for _, d := range []api.Dice{{}, odd(0), odd(5)} {
			at, then, e := Heavy(d, x.w...)
			zero(t, "weights", at, then, e, x.e)
		}
		for _, d := range bad() {
			at, then, e := Heavy(d, x.w...)
			zero(t, "bad dice", at, then, e, api.ErrArg)
		}
		if t.Failed() {
			t.Fatalf("%d: %v", i, x.w)
		}
	}
	for _, d := range bad() {
		at, then, e := Heavy(d, 2, 0, 3)
		zero(t, "bad dice", at, then, e, api.ErrArg)
	}
}

// P3.4

// calls are all kinds of draws; what is drawn is told as a list.
func calls() []func(d api.Dice) ([]int, api.Dice, api.Errno) {
	one := func(n int, d api.Dice, e api.Errno) ([]int, api.Dice, api.Errno) { return []int{n}, d, e }
	return []func(d api.Dice) ([]int, api.Dice, api.Errno){
		func(d api.Dice) ([]int, api.Dice, api.Errno) { return one(Below(d, 1)) },
		func(d api.Dice) ([]int, api.Dice, api.Errno) { return one(Below(d, 1000)) },
		func(d api.Dice) ([]int, api.Dice, api.Errno) { return one(Below(d, api.MaxFaces)) },
		func(d api.Dice) ([]int, api.Dice, api.Errno) { return Order(d, 0) },
		func(d api.Dice) ([]int, api.Dice, api.Errno) { return Order(d, 1) },
		func(d api.Dice) ([]int, api.Dice, api.Errno) { return Order(d, 12) },
		func(d api.Dice) ([]int, api.Dice, api.Errno) { return Order(d, api.MaxOrder) },
		func(d api.Dice) ([]int, api.Dice, api.Errno) { return one(Heavy(d, 1)) },
		func(d api.Dice) ([]int, api.Dice, api.Errno) { return one(Heavy(d, 20000, 0, 300, 4)) },
	}
}

// TestOnceEach asks for many orders: each has all numbers, each of them once.
func TestOnceEach(t *testing.T) {
	l := mixed(4000)
	for at := range l {
		n := at % (api.MaxOrder + 1)
		order, _, e := Order(api.Dice{L: l, At: at}, n)
		slices.Sort(order)
		for i, x := range order {
			if x != i {
				t.Fatalf("of %d, from %d on: %v", n, at, order)
			}
		}
		if len(order) != n || e != api.OK {
			t.Fatalf("of %d, from %d on: %d, error %d", n, at, len(order), e)
		}
	}
}

// TestFromAtOn changes, and leaves out, what was taken: the same is drawn.
func TestFromAtOn(t *testing.T) {
	for i, call := range calls() {
		for at := range 41 {
			d := api.Dice{L: mixed(40), At: at}
			other := clone(d)
			for k := range at {
				other.L[k] ^= 0xff
			}
			short := api.Dice{L: mixed(40)[at:]}
			l, then, e := call(d)
			l2, then2, e2 := call(other)
			l3, then3, e3 := call(short)
			if e != api.OK || e2 != api.OK || e3 != api.OK || !slices.Equal(l, l2) || !slices.Equal(l, l3) {
				t.Fatalf("%d, at %d: %v, %v, %v", i, at, l, l2, l3)
			}
			if then.At != then2.At || then.At != then3.At+at {
				t.Fatalf("%d, at %d: then at %d, %d, %d", i, at, then.At, then2.At, then3.At)
			}
		}
	}
}

// TestZerosBehind lays octets of 0 behind the last one: the same is drawn.
func TestZerosBehind(t *testing.T) {
	for i, call := range calls() {
		for n := range 41 {
			l, _, _ := call(api.Dice{L: mixed(n)})
			longer, _, e := call(api.Dice{L: append(mixed(n), make([]byte, 600)...)})
			if !slices.Equal(l, longer) || e != api.OK {
				t.Fatalf("%d, of %d octets: %v, and %v", i, n, l, longer)
			}
		}
	}
}

// TestOfNoWeight draws often: a place of no weight is never chosen.
func TestOfNoWeight(t *testing.T) {
	w := []int{0, 3, 0, 0, 250, 0, 1, 0, 70, 0}
	d := api.Dice{L: mixed(4000)}
	for d.At < len(d.L) {
		at, then, e := Heavy(d, w...)
		if e != api.OK || at < 0 || at >= len(w) || w[at] == 0 {
			t.Fatalf("at %d: %d, error %d", d.At, at, e)
		}
		d = then
	}
}

// R2

// TestToldIsNew writes into what was told, and into what was handed in: neither may be seen in the other.
func TestToldIsNew(t *testing.T) {
	for i, call := range calls() {
		d := api.Dice{L: mixed(40), At: 3}
		was := clone(d)
		l, then, _ := call(d)
		if !equal(d, was) || !slices.Equal(then.L, was.L) {
			t.Errorf("%d: changed octets: handed in %v, told %v", i, d, then)
		}
		for k := range then.L {
			then.L[k] ^= 0xff
		}
		if !equal(d, was) {
			t.Errorf("%d: what was told is what was handed in", i)
		}
		told, list := clone(then), slices.Clone(l)
		for k := range d.L {
			d.L[k] = 5
		}
		if !equal(then, told) || !slices.Equal(l, list) {
			t.Errorf("%d: what was handed in is what was told", i)
		}
	}
}

// TestOrderIsNew writes into an order: the next one is not another for that.
func TestOrderIsNew(t *testing.T) {
	a, _, _ := Order(odd(0), 3)
	want := slices.Clone(a)
	clear(a)
	if b, _, _ := Order(odd(0), 3); !slices.Equal(b, want) {
		t.Errorf("what was told before shines through: %v", b)
	}
}
