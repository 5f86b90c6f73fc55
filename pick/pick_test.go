package pick

import (
	"math"
	"slices"
	"testing"

	"ravel/api"
)

// The bounds of the document's words, which stand here as numbers of their own.
const (
	mostWorkers = 64
	mostTenants = 16
)

func of(octets ...byte) api.Dice { return api.Dice{L: octets} }

// odd are five octets, of which any may be the first one.
func odd(at int) api.Dice { return api.Dice{L: []byte{1, 2, 0, 3, 9}, At: at} }

// mixed are octets of all kinds, by a short rule.
func mixed(n int) []byte {
	l, seed := make([]byte, n), uint32(7)
	for i := range l {
		seed = seed*1664525 + 1013904223
		l[i] = byte(seed >> 24)
	}
	return l
}

// good are dice that may be: without octets, with some of them, from the first one, the last one, and behind it.
func good() []api.Dice {
	l := []api.Dice{{}, {L: []byte{}}, of(0), of(200), of(0, 1), of(255, 255), {L: []byte{7}, At: 1}}
	for at := range 6 {
		l = append(l, odd(at))
	}
	for _, at := range []int{0, 1, 2, 73, 74, 126, 199, 200} {
		l = append(l, api.Dice{L: mixed(200), At: at})
	}
	return l
}

// bad are dice that may not be.
func bad() []api.Dice {
	return []api.Dice{
		{At: -1}, {At: 1}, {At: math.MinInt}, {At: math.MaxInt},
		{L: []byte{}, At: 1}, odd(-1), odd(6), odd(7), odd(math.MinInt), odd(math.MaxInt),
	}
}

func clone(d api.Dice) api.Dice { return api.Dice{L: slices.Clone(d.L), At: d.At} }

func equal(a, b api.Dice) bool { return a.At == b.At && slices.Equal(a.L, b.L) }

// draw is the k-th draw of dice, by the words of the document alone.
func draw(d api.Dice, k int) int {
	octet := func(i int) int {
		if i < len(d.L) {
			return int(d.L[i])
		}
		return 0
	}
	return octet(d.At+2*k)*256 + octet(d.At+2*k+1)
}

// moved are the dice after so many draws, by the words of the document alone.
func moved(d api.Dice, draws int) api.Dice {
	return api.Dice{L: d.L, At: min(d.At+2*draws, len(d.L))}
}

// asked are those whom one asks, and the dice then, by the words of the document alone.
func asked(d api.Dice, n, me int) ([]int, api.Dice) {
	order := make([]int, n)
	for i := range order {
		order[i] = i
	}
	for i := n - 1; i >= 1; i-- {
		j := draw(d, n-1-i) % (i + 1)
		order[i], order[j] = order[j], order[i]
	}
	var others []int
	for _, who := range order {
		if who != me {
			others = append(others, who)
		}
	}
	return others, moved(d, n-1)
}

// lists holds that a list, and the dice then, are as is wanted, without an error.
func lists(t *testing.T, name string, l, want []int, then, next api.Dice, e api.Errno) {
	t.Helper()
	if !slices.Equal(l, want) || !equal(then, next) || e != api.OK {
		t.Errorf("%s: %v, at %d, error %d, and not %v, at %d", name, l, then.At, e, want, next.At)
	}
}

// chosen holds that one, and the dice then, are as is wanted, without an error.
func chosen(t *testing.T, name string, who, want int, then, next api.Dice, e api.Errno) {
	t.Helper()
	lists(t, name, []int{who}, []int{want}, then, next, e)
}

// zero holds that there is an error, and all else is zero beside it.
func zero(t *testing.T, name string, n int, then api.Dice, e, want api.Errno) {
	t.Helper()
	if n != 0 || then.At != 0 || len(then.L) != 0 || e != want {
		t.Errorf("%s: %d, %v, error %d, and not error %d", name, n, then, e, want)
	}
}

// noWorkers are numbers of workers that may not be; some may be when they are cut to fewer bits.
func noWorkers() []int {
	return []int{0, -1, -3, -mostWorkers, math.MinInt, math.MinInt + 3, mostWorkers + 1, 128, 256, 257, 1<<16 + 3, 1<<32 + 3, math.MaxInt}
}

// nowhere are places at which none of so many is.
func nowhere(n int) []int {
	return []int{-1, -2, -n, -n - 1, n, n + 1, mostWorkers, 256, 1 << 16, 1 << 32, math.MaxInt, math.MinInt, math.MinInt + 1}
}

// P16.1

// TestVictimsByHand holds the document's example, and some more that were reckoned by hand.
func TestVictimsByHand(t *testing.T) {
	for i, x := range []struct {
		d     api.Dice
		n, me int
		want  []int
		next  int
	}{
		// Without draws each one changes places with the first one.
		{api.Dice{}, 3, 0, []int{1, 2}, 0},
		{api.Dice{}, 3, 1, []int{2, 0}, 0},
		{api.Dice{}, 3, 2, []int{1, 0}, 0},
		{api.Dice{}, 4, 0, []int{1, 2, 3}, 0},
		{api.Dice{}, 2, 0, []int{1}, 0},
		{api.Dice{}, 2, 1, []int{0}, 0},
		// Draws by which each one stays where it is.
		{of(0, 3, 0, 2, 0, 1), 4, 0, []int{1, 2, 3}, 6},
		{of(0, 3, 0, 2, 0, 1), 4, 2, []int{0, 1, 3}, 6},
		{of(0, 7, 0, 5, 0, 3), 4, 3, []int{0, 1, 2}, 6},
		{of(0, 1, 0, 0, 0, 1), 4, 0, []int{2, 3, 1}, 6},
		{of(0, 1, 0, 0, 0, 1), 4, 3, []int{2, 0, 1}, 6},
		{of(1, 0), 3, 2, []int{0, 1}, 2},
		{of(1, 1), 3, 0, []int{1, 2}, 2},
		// One alone asks nobody, and draws nothing.
		{of(3, 4), 1, 0, nil, 0},
		{odd(5), 1, 0, nil, 5},
		{odd(2), 2, 0, []int{1}, 4},
		{odd(4), 2, 1, []int{0}, 5},
		{odd(1), 4, 1, []int{2, 3, 0}, 5},
	} {
		l, then, e := Victims(x.d, x.n, x.me)
		lists(t, "victims", l, x.want, then, api.Dice{L: x.d.L, At: x.next}, e)
		if t.Failed() {
			t.Fatalf("%d: %v", i, x)
		}
	}
}

// TestVictims holds all numbers of workers, and each one of them, against the document's words.
func TestVictims(t *testing.T) {
	for _, d := range good() {
		for n := 1; n <= mostWorkers; n++ {
			for me := range n {
				want, next := asked(d, n, me)
				l, then, e := Victims(d, n, me)
				lists(t, "victims", l, want, then, next, e)
			}
		}
	}
}

// TestAllOrders holds that each order of the others comes as often as any other one, when all draws come.
func TestAllOrders(t *testing.T) {
	for me := range 4 {
		times := map[[3]int]int{}
		for way := range 4 * 3 * 2 {
			l, _, e := Victims(of(0, byte(way%4), 0, byte(way/4%3), 0, byte(way/12)), 4, me)
			if len(l) != 3 || e != api.OK {
				t.Fatalf("%d: %v, error %d", way, l, e)
			}
			times[[3]int(l)]++
		}
		for order, n := range times {
			if n != 4 {
				t.Errorf("%d asks %v %d times", me, order, n)
			}
		}
		if len(times) != 6 {
			t.Errorf("%d asks in %d orders", me, len(times))
		}
	}
}

func TestVictimsOfWhatMayNotBe(t *testing.T) {
	for _, d := range slices.Concat(good(), bad()) {
		for _, n := range noWorkers() {
			for _, me := range append(nowhere(n), 0, 1, n-1) {
				l, then, e := Victims(d, n, me)
				zero(t, "no such workers", len(l), then, e, api.ErrArg)
			}
		}
		for _, n := range []int{1, 2, 3, 63, 64} {
			for _, me := range nowhere(n) {
				l, then, e := Victims(d, n, me)
				zero(t, "not one of them", len(l), then, e, api.ErrArg)
			}
		}
	}
	for _, d := range bad() {
		for n := 1; n <= mostWorkers; n++ {
			l, then, e := Victims(d, n, n-1)
			zero(t, "bad dice", len(l), then, e, api.ErrArg)
		}
	}
}

// P16.2

// TestStealByHand holds some that were reckoned by hand.
func TestStealByHand(t *testing.T) {
	// 0 asks 2, 3, 1 by these, 3 asks 2, 0, 1.
	d := of(0, 1, 0, 0, 0, 1, 9)
	for i, x := range []struct {
		has  []int
		me   int
		want int
	}{
		{[]int{0, 1, 1, 1}, 0, 2},
		{[]int{0, 9, 0, 1}, 0, 3},
		{[]int{0, 9, 0, 0}, 0, 1},
		{[]int{5, 0, 0, math.MaxInt}, 0, 3},
		{[]int{1, 1, 1, 0}, 3, 2},
		{[]int{1, 1, 0, 0}, 3, 0},
		{[]int{1, 1 << 32, 0, 8}, 3, 0},
		{[]int{0, 1 << 32, 0, 8}, 3, 1},
		{[]int{0, 1 << 16, 0, 0}, 3, 1},
		{[]int{0, 256, 0, 0}, 3, 1},
	} {
		who, then, e := Steal(d, x.has, x.me)
		chosen(t, "steal", who, x.want, then, api.Dice{L: d.L, At: 6}, e)
		if t.Failed() {
			t.Fatalf("%d: %v", i, x)
		}
	}
}

// steals holds one steal against the document's words.
func steals(t *testing.T, d api.Dice, has []int, me int) {
	t.Helper()
	others, next := asked(d, len(has), me)
	who, then, e := Steal(d, has, me)
	for _, other := range others {
		if has[other] > 0 {
			chosen(t, "steal", who, other, then, next, e)
			return
		}
	}
	zero(t, "nothing to steal", who, then, e, api.ErrNone)
}

// TestStealOfAllSmall steals of up to five, whichever of them have something, and whoever steals.
func TestStealOfAllSmall(t *testing.T) {
	for _, d := range good() {
		for n := 1; n <= 5; n++ {
			for bits := range 1 << n {
				has := make([]int, n)
				for i := range has {
					has[i] = (bits >> i & 1) * (i*i + 1)
				}
				for me := range n {
					steals(t, d, has, me)
				}
			}
		}
	}
}

// TestSteal steals of all numbers of workers: of which all, none, one, or some have something.
func TestSteal(t *testing.T) {
	for _, d := range good() {
		for n := 1; n <= mostWorkers; n++ {
			for _, me := range []int{0, n / 2, n - 1} {
				steals(t, d, make([]int, n), me)
				steals(t, d, slices.Repeat([]int{1}, n), me)
				for _, at := range []int{0, n / 3, n / 2, n - 1} {
					has := make([]int, n)
					has[at] = math.MaxInt
					steals(t, d, has, me)
					has[me] = 6
					steals(t, d, has, me)
				}
				some := make([]int, n)
				for i := range some {
					some[i] = i * i % 7
				}
				steals(t, d, some, me)
			}
		}
	}
}

func TestStealOfWhatMayNotBe(t *testing.T) {
	for _, d := range slices.Concat(good(), bad()) {
		for _, n := range []int{0, 65, 66, 128, 256, 257} {
			for _, me := range append(nowhere(n), 0, 1, n-1) {
				for _, x := range []int{0, 1, -1} {
					who, then, e := Steal(d, slices.Repeat([]int{x}, n), me)
					zero(t, "no such workers", who, then, e, api.ErrArg)
				}
			}
		}
		who, then, e := Steal(d, nil, 0)
		zero(t, "nobody", who, then, e, api.ErrArg)
		for _, n := range []int{1, 2, 3, 63, 64} {
			for _, me := range nowhere(n) {
				for _, x := range []int{0, 1, -1} {
					who, then, e := Steal(d, slices.Repeat([]int{x}, n), me)
					zero(t, "not one of them", who, then, e, api.ErrArg)
				}
			}
		}
	}
}

// TestStealOfBadDice holds that bad dice are told ahead of there being none.
func TestStealOfBadDice(t *testing.T) {
	for _, d := range bad() {
		for _, has := range [][]int{{0}, {1}, {0, 0}, {0, 1}, {1, 0, -1}, make([]int, mostWorkers)} {
			who, then, e := Steal(d, has, 0)
			zero(t, "bad dice", who, then, e, api.ErrArg)
		}
	}
}

// TestStealOfFewerThanNothing holds that ErrArg comes whoever has fewer than 0, the one that steals as well, and also where another one has something, or none.
func TestStealOfFewerThanNothing(t *testing.T) {
	for _, d := range good() {
		for _, n := range []int{1, 2, 3, 4, 63, 64} {
			for _, x := range []int{0, 1} {
				for _, at := range []int{0, n / 2, n - 1} {
					for _, fewer := range []int{-1, -2, math.MinInt, math.MinInt + 1} {
						has := slices.Repeat([]int{x}, n)
						has[at] = fewer
						for _, me := range []int{0, n / 2, n - 1} {
							who, then, e := Steal(d, has, me)
							zero(t, "fewer than 0", who, then, e, api.ErrArg)
						}
					}
				}
			}
		}
	}
}

// P16.4

func TestHalfAndSpill(t *testing.T) {
	for _, x := range []struct{ n, half, spill int }{
		{0, 0, 0}, {1, 1, 0}, {2, 1, 1}, {3, 2, 1}, {4, 2, 2}, {5, 3, 2}, {255, 128, 127}, {256, 128, 128}, {257, 129, 128},
		{1023, 512, 511}, {1024, 512, 512}, {1<<31 - 1, 1 << 30, 1<<30 - 1}, {1 << 31, 1 << 30, 1 << 30}, {1<<32 + 1, 1<<31 + 1, 1 << 31},
		{1<<53 + 1, 1<<52 + 1, 1 << 52}, {math.MaxInt - 1, 1<<62 - 1, 1<<62 - 1}, {math.MaxInt, 1 << 62, 1<<62 - 1},
	} {
		halves(t, x.n, x.half, x.spill)
	}
	half, spill := 0, 0
	for n := range 5000 {
		halves(t, n, half, spill)
		if half == spill {
			half++
		} else {
			spill++
		}
	}
}

// halves holds both halves of a number.
func halves(t *testing.T, n, half, spill int) {
	t.Helper()
	if got, e := Half(n); got != half || e != api.OK {
		t.Errorf("half of %d: %d, error %d, and not %d", n, got, e, half)
	}
	if got, e := Spill(n); got != spill || e != api.OK {
		t.Errorf("spill of %d: %d, error %d, and not %d", n, got, e, spill)
	}
}

func TestHalfOfFewerThanNothing(t *testing.T) {
	for _, n := range []int{-1, -2, -3, -256, -1 << 32, math.MinInt + 1, math.MinInt} {
		if got, e := Half(n); got != 0 || e != api.ErrArg {
			t.Errorf("half of %d: %d, error %d", n, got, e)
		}
		if got, e := Spill(n); got != 0 || e != api.ErrArg {
			t.Errorf("spill of %d: %d, error %d", n, got, e)
		}
	}
}

// P16.5

// TestEachJustOnce goes on with the dice from turn to turn: each other one is asked just once, and nobody asks itself.
func TestEachJustOnce(t *testing.T) {
	d := api.Dice{L: mixed(30000)}
	for turn := range 1200 {
		n := 1 + turn*37%mostWorkers
		me := turn * 11 % n
		l, then, e := Victims(d, n, me)
		times := make([]int, n)
		for _, who := range l {
			if who < 0 || who >= n {
				t.Fatalf("%d of %d asks %v", me, n, l)
			}
			times[who]++
		}
		for who, k := range times {
			if who == me && k != 0 || who != me && k != 1 {
				t.Fatalf("%d of %d asks %d %d times: %v", me, n, who, k, l)
			}
		}
		if e != api.OK {
			t.Fatalf("error %d", e)
		}
		d = then
	}
}

// TestChosenHaveSomething goes on with the dice from turn to turn: who is stolen of is another one, and has something; whom luck chooses is busy.
func TestChosenHaveSomething(t *testing.T) {
	some := mixed(64 * 600)
	d := api.Dice{L: mixed(20000)}
	for turn := range 600 {
		n := 1 + turn*29%mostWorkers
		me, has, other := turn*13%n, make([]int, n), false
		for i := range has {
			has[i] = max(0, int(some[64*turn+i])-240+turn%30)
			other = other || i != me && has[i] > 0
		}
		who, then, e := Steal(d, has, me)
		if !other {
			zero(t, "nothing to steal", who, then, e, api.ErrNone)
			then = d
		} else if e != api.OK || who == me || has[who] < 1 {
			t.Fatalf("%d of %v: %d, error %d", me, has, who, e)
		}
		d = luckyTurn(t, then, some[64*turn:64*turn+1+turn%mostTenants])
	}
}

// luckyTurn lets luck choose one of tenants, some of which are busy, and tells the dice then.
func luckyTurn(t *testing.T, d api.Dice, some []byte) api.Dice {
	t.Helper()
	var l []api.Tenant
	var busy []bool
	for _, x := range some {
		l, busy = append(l, ten(1+int(x)/16)), append(busy, x%3 == 0)
	}
	i, then, e := Lucky(d, l, busy)
	if !slices.Contains(busy, true) {
		zero(t, "none is busy", i, then, e, api.ErrNone)
		return d
	}
	if e != api.OK || i < 0 || i >= len(l) || !busy[i] {
		t.Fatalf("%v: %d, error %d", busy, i, e)
	}
	return then
}

// TestByWhoHasAlone holds that nothing hangs on what the one that steals has, nor on how much the other ones have.
func TestByWhoHasAlone(t *testing.T) {
	for _, d := range good() {
		for n := 1; n <= 20; n++ {
			few, many := make([]int, n), make([]int, n)
			for i := range few {
				if i*5%3 == 1 {
					few[i], many[i] = 1, math.MaxInt-i
				}
			}
			for me := range n {
				few[me], many[me] = 0, 1<<40
				who, then, e := Steal(d, few, me)
				who2, then2, e2 := Steal(d, many, me)
				if who != who2 || !equal(then, then2) || e != e2 {
					t.Fatalf("%v, %v: %d, %d", few, many, who, who2)
				}
				few[me], many[me] = 0, 0
			}
		}
	}
}

// R2

// calls are all kinds of choices; what is chosen is told as a list.
func calls() map[string]func(api.Dice, []int, []api.Tenant, []bool) ([]int, api.Dice) {
	return map[string]func(api.Dice, []int, []api.Tenant, []bool) ([]int, api.Dice){
		"victims": func(d api.Dice, _ []int, _ []api.Tenant, _ []bool) ([]int, api.Dice) {
			l, then, _ := Victims(d, 9, 4)
			return l, then
		},
		"nobody": func(d api.Dice, _ []int, _ []api.Tenant, _ []bool) ([]int, api.Dice) {
			l, then, _ := Victims(d, 1, 0)
			return l, then
		},
		"steal": func(d api.Dice, has []int, _ []api.Tenant, _ []bool) ([]int, api.Dice) {
			who, then, _ := Steal(d, has, 1)
			return []int{who}, then
		},
		"lucky": func(d api.Dice, _ []int, l []api.Tenant, busy []bool) ([]int, api.Dice) {
			i, then, _ := Lucky(d, l, busy)
			return []int{i}, then
		},
		"refused": func(d api.Dice, has []int, l []api.Tenant, busy []bool) ([]int, api.Dice) {
			_, then, _ := Steal(d, has, 7)
			_, _, _ = Lucky(d, l[:2], busy)
			return nil, then
		},
	}
}

// TestWhoseIsWhat holds that no call changes what it was handed, nor what stands behind that, and that what it answers is the caller's own.
func TestWhoseIsWhat(t *testing.T) {
	wasHas, wasTen, wasBusy := []int{0, 4, 0, 7}, tens(3, 8, 16, 5), yes(1, 0, 1, 1)
	for name, call := range calls() {
		octets, has, l, busy := mixed(60), slices.Clone(wasHas), slices.Clone(wasTen), slices.Clone(wasBusy)
		d := api.Dice{L: octets[:40], At: 3}
		told, then := call(d, has[:3], l[:3], busy[:3])
		again, _ := call(d, has[:3], l[:3], busy[:3])
		if !slices.Equal(octets, mixed(60)) || !slices.Equal(has, wasHas) || !slices.Equal(l, wasTen) || !slices.Equal(busy, wasBusy) {
			t.Errorf("%s: changed what it was handed", name)
		}
		kept, keptThen := slices.Clone(told), clone(then)
		for i := range octets {
			octets[i] ^= 0xff
		}
		clear(has)
		clear(l)
		clear(busy)
		if !slices.Equal(told, kept) || !equal(then, keptThen) {
			t.Errorf("%s: hangs on what it was handed", name)
		}
		was := slices.Clone(octets)
		clear(told[:cap(told)])
		clear(then.L[:cap(then.L)])
		if !slices.Equal(again, kept) || !slices.Equal(octets, was) {
			t.Errorf("%s: hangs on what was answered ahead", name)
		}
	}
}
