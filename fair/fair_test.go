package fair

import (
	"math"
	"math/big"
	"slices"
	"testing"

	"ravel/api"
)

// The bounds of the document's words, which stand here as numbers of their own.
const (
	mostTenants = 16
	mostWeight  = 16
	mostTag     = 1 << 60
	unitCost    = 720720
)

// each is what a unit costs of each weight, as 720720 by it was reckoned by hand; there is no weight 0.
func each(weight int) int64 {
	return [...]int64{0, 720720, 360360, 240240, 180180, 144144, 120120, 102960, 90090, 80080, 72072, 65520, 60060, 55440, 51480, 48048, 45045}[weight]
}

// ten is a tenant of a weight and a tag, whose other parts are as no other ones.
func ten(weight int, tag int64) api.Tenant {
	return api.Tenant{Weight: weight, Quota: 90, Live: 31, Tag: tag, Ran: 5050}
}

// tens are tenants of weight 1, of those tags.
func tens(tags ...int64) []api.Tenant {
	var l []api.Tenant
	for _, tag := range tags {
		l = append(l, ten(1, tag))
	}
	return l
}

// least and most are tenants all of whose parts are at an edge.
func least() api.Tenant { return api.Tenant{Weight: 1} }

func most() api.Tenant {
	return api.Tenant{Weight: 16, Quota: 256, Live: 256, Tag: mostTag, Ran: 1 << 40}
}

// good are tenants that may be, of each count, with tags at the edges, and between, at each place.
func good() [][]api.Tenant {
	var l [][]api.Tenant
	for n := 1; n <= mostTenants; n++ {
		l = append(l, slices.Repeat([]api.Tenant{least()}, n), slices.Repeat([]api.Tenant{most()}, n))
		rising, falling := []api.Tenant{}, []api.Tenant{}
		for i := range n {
			rising = append(rising, ten(i+1, int64(i)*each(i+1)+3))
			falling = append(falling, ten(16-i, mostTag-int64(i)*unitCost))
		}
		l = append(l, rising, falling)
		for at := range n {
			some := slices.Repeat([]api.Tenant{ten(5, 144144*7)}, n)
			some[at] = most()
			other := slices.Clone(some)
			other[at] = least()
			l = append(l, some, other)
		}
	}
	for weight := 1; weight <= mostWeight; weight++ {
		for _, tag := range []int64{0, 1, each(weight) - 1, each(weight), each(weight) + 1, 1 << 32, 1 << 59, mostTag - each(weight), mostTag - each(weight) + 1, mostTag - 1, mostTag} {
			l = append(l, []api.Tenant{ten(weight, tag)}, []api.Tenant{ten(3, 8), ten(weight, tag), least()})
		}
	}
	return l
}

// broken are tenants that may not be: one part of them is wrong.
func broken() []api.Tenant {
	l := []api.Tenant{{}}
	for _, wrong := range []func(t *api.Tenant){
		func(t *api.Tenant) { t.Weight = 0 }, func(t *api.Tenant) { t.Weight = -1 }, func(t *api.Tenant) { t.Weight = 17 }, func(t *api.Tenant) { t.Weight = 1<<32 + 1 },
		func(t *api.Tenant) { t.Quota = -1 }, func(t *api.Tenant) { t.Quota = 257 }, func(t *api.Tenant) { t.Quota = 30 },
		func(t *api.Tenant) { t.Live = -1 }, func(t *api.Tenant) { t.Live = 91 },
		func(t *api.Tenant) { t.Tag = -1 }, func(t *api.Tenant) { t.Tag = mostTag + 1 }, func(t *api.Tenant) { t.Tag = math.MaxInt64 }, func(t *api.Tenant) { t.Tag = math.MinInt64 },
		func(t *api.Tenant) { t.Ran = -1 }, func(t *api.Tenant) { t.Ran = 1<<40 + 1 },
	} {
		t := ten(4, 99)
		wrong(&t)
		l = append(l, t)
	}
	return l
}

// bad are tenants that may not be: there are none, or too many, or one at any place is broken.
func bad() [][]api.Tenant {
	l := [][]api.Tenant{nil, {}}
	for _, n := range []int{17, 18, 256 + 1, 1<<16 + 1} {
		l = append(l, slices.Repeat([]api.Tenant{least()}, n))
	}
	for _, t := range broken() {
		l = append(l, []api.Tenant{t}, []api.Tenant{t, least()}, []api.Tenant{least(), t}, []api.Tenant{least(), t, most()})
		for _, at := range []int{0, 7, 15} {
			some := slices.Repeat([]api.Tenant{ten(2, 8)}, mostTenants)
			some[at] = t
			l = append(l, some)
		}
	}
	return l
}

// like tells whether two are the same, part by part.
func like(a, b []api.Tenant) bool {
	if len(a) != len(b) {
		return false
	}
	for i, t := range a {
		if t.Weight != b[i].Weight || t.Quota != b[i].Quota || t.Live != b[i].Live || t.Tag != b[i].Tag || t.Ran != b[i].Ran {
			return false
		}
	}
	return true
}

// but are tenants one of which has another tag.
func but(l []api.Tenant, i int, tag int64) []api.Tenant {
	l = slices.Clone(l)
	l[i].Tag = tag
	return l
}

// holds holds that tenants are as is wanted, without an error.
func holds(t *testing.T, name string, l, want []api.Tenant, e api.Errno) {
	t.Helper()
	if !like(l, want) || e != api.OK {
		t.Errorf("%s: %v, error %d, and not %v", name, l, e, want)
	}
}

// zero holds that there is an error, and nothing beside it.
func zero(t *testing.T, name string, l []api.Tenant, e, want api.Errno) {
	t.Helper()
	if len(l) != 0 || e != want {
		t.Errorf("%s: %v, error %d, and not error %d", name, l, e, want)
	}
}

// number holds that a number, and an error, are as is wanted.
func number[N int | int64](t *testing.T, name string, got, want N, e, wantE api.Errno) {
	t.Helper()
	if got != want || e != wantE {
		t.Errorf("%s: %d, error %d, and not %d, error %d", name, got, e, want, wantE)
	}
}

// nowhere are places of which there is no tenant, of so many; some are one when they are cut to fewer bits.
func nowhere(n int) []int {
	return []int{-1, -2, -n, -n - 1, n, n + 1, 16, 256, 1 << 16, 1 << 32, math.MaxInt, math.MinInt, math.MinInt + 1}
}

// misfits are what is busy of more, or fewer, than so many.
func misfits(n int) [][]bool {
	var l [][]bool
	for _, other := range []int{0, 1, n - 1, n + 1, 15, 16, 17, 1 << 16} {
		if other >= 0 && other != n {
			l = append(l, slices.Repeat([]bool{true}, other), make([]bool, other))
		}
	}
	return l
}

// masks are some of what may be busy, of so many: all of it where they are few.
func masks(n int) [][]bool {
	var l [][]bool
	for bits := range 1 << n {
		if n > 5 && bits%(1<<n/29) != 0 && bits&(bits-1) != 0 && bits != 1<<n-1 {
			continue
		}
		busy := make([]bool, n)
		for i := range busy {
			busy[i] = bits>>i&1 == 1
		}
		l = append(l, busy)
	}
	return l
}

// first tells by the document's words, tag by tag, which busy one is the least (-1: none is busy).
func first(l []api.Tenant, busy []bool) int {
	for i := range l {
		is := busy[i]
		for k := range l {
			if busy[k] && (l[k].Tag < l[i].Tag || l[k].Tag == l[i].Tag && k < i) {
				is = false
			}
		}
		if is {
			return i
		}
	}
	return -1
}

// P15.1

// TestCost holds what units cost against numbers without a bound.
func TestCost(t *testing.T) {
	for weight := 1; weight <= mostWeight; weight++ {
		top := int64(mostTag) / each(weight)
		round := math.MaxInt64 / each(weight)
		for _, units := range []int64{0, 1, 2, 3, 15, 16, 17, 100, 255, 256, 720720, 1 << 31, 1 << 32, 1 << 40, top - 1, top, top + 1, top * 2, round - 1, round, round + 1, round * 2, round*2 + 3, 1 << 60, 1 << 62, math.MaxInt64 - 1, math.MaxInt64} {
			exact := new(big.Int).Mul(big.NewInt(units), big.NewInt(unitCost))
			exact, rest := exact.QuoRem(exact, big.NewInt(int64(weight)), new(big.Int))
			if rest.Sign() != 0 {
				t.Fatalf("weight %d does not divide it", weight)
			}
			c, e := Cost(weight, units)
			if exact.Cmp(big.NewInt(mostTag)) > 0 {
				number(t, "cost, too much", c, 0, e, api.ErrLarge)
				continue
			}
			number(t, "cost", c, exact.Int64(), e, api.OK)
		}
		c, e := Cost(weight, 1)
		number(t, "cost of one", c, each(weight), e, api.OK)
	}
}

// TestCostOfWrongNumbers holds that ErrArg is ahead of ErrLarge.
func TestCostOfWrongNumbers(t *testing.T) {
	units := []int64{0, 1, 9, 1 << 60, math.MaxInt64}
	below := []int64{-1, -2, -720720, -1 << 60, math.MinInt64, math.MinInt64 + 1}
	for _, weight := range []int{0, -1, -16, 17, 18, 20, 256, 256 + 1, 720720, 720721, 1<<32 + 1, math.MaxInt, math.MinInt, math.MinInt + 1} {
		for _, n := range slices.Concat(units, below) {
			c, e := Cost(weight, n)
			number(t, "cost of a wrong weight", c, 0, e, api.ErrArg)
		}
	}
	for weight := 1; weight <= mostWeight; weight++ {
		for _, n := range below {
			c, e := Cost(weight, n)
			number(t, "cost of units below 0", c, 0, e, api.ErrArg)
		}
	}
}

func TestGap(t *testing.T) {
	for _, l := range good() {
		for i := range l {
			for k := range l {
				n, e := Gap(l, i, k)
				number(t, "gap", n, l[i].Tag-l[k].Tag, e, api.OK)
			}
		}
	}
	for _, x := range []struct {
		a, b, want int64
	}{{0, 0, 0}, {5, 3, 2}, {3, 5, -2}, {mostTag, 0, 1 << 60}, {0, mostTag, -1 << 60}, {mostTag, mostTag, 0}} {
		n, e := Gap(tens(7, x.a, 9, x.b, 11), 1, 3)
		number(t, "gap of two", n, x.want, e, api.OK)
	}
}

func TestGapOfNobody(t *testing.T) {
	for _, n := range []int{1, 2, 3, 15, 16} {
		l := slices.Repeat([]api.Tenant{ten(2, 7)}, n)
		for _, i := range nowhere(n) {
			for _, k := range append(nowhere(n), 0, n-1) {
				gap, e := Gap(l, i, k)
				number(t, "gap of nobody", gap, 0, e, api.ErrNone)
				gap, e = Gap(l, k, i)
				number(t, "gap to nobody", gap, 0, e, api.ErrNone)
			}
		}
	}
}

// P15.2

func TestCharge(t *testing.T) {
	for _, l := range good() {
		for i, x := range l {
			room := (mostTag - x.Tag) / each(x.Weight)
			for _, units := range []int64{0, 1, 2, 100, room - 1, room, room + 1, room + 2, mostTag / each(x.Weight), mostTag/each(x.Weight) + 1, math.MaxInt64 / each(x.Weight), math.MaxInt64/each(x.Weight) + 1, 1 << 60, math.MaxInt64 - 1, math.MaxInt64, -1, -2, -room, -1 << 60, math.MinInt64, math.MinInt64 + 1} {
				got, e := Charge(l, i, units)
				switch {
				case units < 0:
					zero(t, "charge, below 0", got, e, api.ErrArg)
				case units > room:
					zero(t, "charge, too much", got, e, api.ErrLarge)
				default:
					holds(t, "charge", got, but(l, i, x.Tag+units*each(x.Weight)), e)
				}
			}
		}
	}
}

func TestRefund(t *testing.T) {
	for _, l := range good() {
		for i, x := range l {
			has := x.Tag / each(x.Weight)
			for _, units := range []int64{0, 1, 2, 100, has - 1, has, has + 1, has + 2, mostTag / each(x.Weight), mostTag/each(x.Weight) + 1, math.MaxInt64 / each(x.Weight), math.MaxInt64/each(x.Weight) + 1, 1 << 60, math.MaxInt64 - 1, math.MaxInt64, -1, -2, -has, -1 << 60, math.MinInt64, math.MinInt64 + 1} {
				got, e := Refund(l, i, units)
				switch {
				case units < 0:
					zero(t, "refund, below 0", got, e, api.ErrArg)
				case units > has:
					zero(t, "refund, too much", got, e, api.ErrState)
				default:
					holds(t, "refund", got, but(l, i, x.Tag-units*each(x.Weight)), e)
				}
			}
		}
	}
}

// TestChargedAndRefunded holds that what was charged is given back, and the other way about.
func TestChargedAndRefunded(t *testing.T) {
	for _, l := range good() {
		for i := range l {
			for _, units := range []int64{0, 1, 3, 100, 1 << 30} {
				if up, e := Charge(l, i, units); e == api.OK {
					down, e := Refund(up, i, units)
					holds(t, "charged, and refunded", down, l, e)
				}
				if down, e := Refund(l, i, units); e == api.OK {
					up, e := Charge(down, i, units)
					holds(t, "refunded, and charged", up, l, e)
				}
			}
		}
	}
}

// TestChangesOfNobody holds that there is no such tenant is told ahead of what is wrong with the units.
func TestChangesOfNobody(t *testing.T) {
	for _, n := range []int{1, 2, 3, 15, 16} {
		for _, x := range []api.Tenant{least(), ten(7, 500), most()} {
			l := slices.Repeat([]api.Tenant{x}, n)
			for _, i := range nowhere(n) {
				for _, units := range []int64{0, 1, 1 << 60, math.MaxInt64, -1, math.MinInt64} {
					got, e := Charge(l, i, units)
					zero(t, "charge of nobody", got, e, api.ErrNone)
					got, e = Refund(l, i, units)
					zero(t, "refund of nobody", got, e, api.ErrNone)
				}
				for _, busy := range [][]bool{make([]bool, n), slices.Repeat([]bool{true}, n)} {
					got, e := Wake(l, i, busy)
					zero(t, "wake nobody", got, e, api.ErrNone)
				}
			}
		}
	}
}

// TestBadTenants holds that ErrArg is ahead of all that may be wrong besides.
func TestBadTenants(t *testing.T) {
	for _, l := range bad() {
		for _, i := range append(nowhere(len(l)), 0, 1, len(l)-1) {
			for _, units := range []int64{0, 1, -1, 1 << 60, math.MaxInt64} {
				got, e := Charge(l, i, units)
				zero(t, "charge", got, e, api.ErrArg)
				got, e = Refund(l, i, units)
				zero(t, "refund", got, e, api.ErrArg)
			}
			for _, busy := range append(misfits(len(l)), make([]bool, len(l)), slices.Repeat([]bool{true}, len(l))) {
				got, e := Wake(l, i, busy)
				zero(t, "wake", got, e, api.ErrArg)
				k, e := Least(l, busy)
				number(t, "least", k, 0, e, api.ErrArg)
			}
			for _, k := range []int{0, 1, -1, len(l), math.MaxInt} {
				n, e := Gap(l, i, k)
				number(t, "gap", n, 0, e, api.ErrArg)
				n, e = Gap(l, k, i)
				number(t, "gap, the other way", n, 0, e, api.ErrArg)
			}
		}
	}
}

// P15.3

func TestLeast(t *testing.T) {
	for _, l := range good() {
		for _, busy := range masks(len(l)) {
			i, e := Least(l, busy)
			if want := first(l, busy); want >= 0 {
				number(t, "least", i, want, e, api.OK)
			} else {
				number(t, "least of none", i, 0, e, api.ErrNone)
			}
		}
	}
}

// tagsOf goes through all tenants of so many tags below a number.
func tagsOf(n, below int, each func(l []api.Tenant)) {
	ways := 1
	for range n {
		ways *= below
	}
	for way := range ways {
		var l []api.Tenant
		for i := range n {
			l = append(l, ten(1+(i*5+way)%16, int64(way%below)))
			way /= below
		}
		each(l)
	}
}

// TestLeastOfAllSmall holds the least of all tags below 4, of up to four tenants, whichever are busy.
func TestLeastOfAllSmall(t *testing.T) {
	for n := 1; n <= 4; n++ {
		tagsOf(n, 4, func(l []api.Tenant) {
			for _, busy := range masks(n) {
				i, e := Least(l, busy)
				if want := first(l, busy); want >= 0 {
					number(t, "least", i, want, e, api.OK)
				} else {
					number(t, "least of none", i, 0, e, api.ErrNone)
				}
			}
		})
	}
}

// TestLeastByTagAlone holds that no other part has a say, and that the first one comes of the same tags.
func TestLeastByTagAlone(t *testing.T) {
	all := []bool{true, true, true}
	for _, x := range []struct {
		l    []api.Tenant
		busy []bool
		want int
	}{
		{[]api.Tenant{ten(16, 9), ten(1, 8), ten(2, 9)}, all, 1},
		{[]api.Tenant{ten(1, 9), ten(16, 9), ten(2, 9)}, all, 0},
		{[]api.Tenant{{Weight: 9, Tag: 3}, {Weight: 1, Quota: 256, Live: 256, Tag: 2, Ran: 1 << 40}, {Weight: 9, Tag: 2}}, all, 1},
		{tens(mostTag, mostTag, mostTag), all, 0},
		{tens(mostTag, mostTag-1, mostTag), all, 1},
		{tens(0, 1, 1), []bool{false, true, true}, 1},
		{tens(0, 0, 0), []bool{false, false, true}, 2},
		{tens(1<<32, 1<<33, 1), []bool{true, true, false}, 0},
		{tens(1<<32+1, 1<<33, 2), []bool{true, true, true}, 2},
	} {
		i, e := Least(x.l, x.busy)
		number(t, "least", i, x.want, e, api.OK)
	}
}

func TestWake(t *testing.T) {
	for _, l := range good() {
		for _, busy := range masks(min(len(l), 6)) {
			for len(busy) < len(l) {
				busy = append(busy, len(busy)%3 == 1)
			}
			for i := range l {
				wakes(t, l, i, busy)
			}
		}
	}
}

// wakes holds one wake against the document's words.
func wakes(t *testing.T, l []api.Tenant, i int, busy []bool) {
	t.Helper()
	want := l
	if k := first(l, busy); k >= 0 && l[k].Tag > l[i].Tag {
		want = but(l, i, l[k].Tag)
	}
	got, e := Wake(l, i, busy)
	holds(t, "wake", got, want, e)
	again, e := Wake(got, i, busy)
	holds(t, "wake again", again, got, e)
}

// TestWakeOfAllSmall wakes each one of all tags below 4, of up to four tenants, whichever are busy.
func TestWakeOfAllSmall(t *testing.T) {
	for n := 1; n <= 4; n++ {
		tagsOf(n, 4, func(l []api.Tenant) {
			for _, busy := range masks(n) {
				for i := range n {
					wakes(t, l, i, busy)
				}
			}
		})
	}
}

// TestWakeByHand holds some wakes that were reckoned by hand.
func TestWakeByHand(t *testing.T) {
	for _, x := range []struct {
		tags []int64
		i    int
		busy []bool
		want int64
	}{
		{[]int64{3, 9, 7}, 0, []bool{false, true, true}, 7},
		{[]int64{3, 9, 7}, 0, []bool{false, true, false}, 9},
		{[]int64{3, 9, 7}, 0, []bool{true, true, true}, 3},
		{[]int64{3, 9, 7}, 0, []bool{false, false, false}, 3},
		{[]int64{3, 9, 7}, 1, []bool{true, false, true}, 9},
		{[]int64{3, 9, 7}, 2, []bool{true, true, false}, 7},
		{[]int64{0, mostTag}, 0, []bool{false, true}, mostTag},
		{[]int64{mostTag, 0}, 0, []bool{false, true}, mostTag},
		{[]int64{5, 5}, 1, []bool{true, false}, 5},
	} {
		got, e := Wake(tens(x.tags...), x.i, x.busy)
		holds(t, "wake", got, but(tens(x.tags...), x.i, x.want), e)
	}
}

// TestBusyOfOthers holds that busy has to have one for each tenant, no more and no fewer, ahead of all else.
func TestBusyOfOthers(t *testing.T) {
	for n := 1; n <= mostTenants; n++ {
		l := slices.Repeat([]api.Tenant{ten(3, 44)}, n)
		for _, busy := range misfits(n) {
			k, e := Least(l, busy)
			number(t, "least", k, 0, e, api.ErrArg)
			for _, i := range append(nowhere(n), 0, n-1) {
				got, e := Wake(l, i, busy)
				zero(t, "wake", got, e, api.ErrArg)
			}
		}
		k, e := Least(l, make([]bool, n))
		number(t, "least of none", k, 0, e, api.ErrNone)
	}
}

// R2

// scribble writes over all that a list has, behind its length as well.
func scribble(l []api.Tenant) {
	l = l[:cap(l)]
	for i := range l {
		l[i] = ten(-7, -7)
	}
}

// TestWhoseIsWhat holds that no call changes what it was handed, whether it refuses or not, and that what it answers is the caller's own.
func TestWhoseIsWhat(t *testing.T) {
	for name, call := range map[string]func([]api.Tenant, []bool) ([]api.Tenant, api.Errno){
		"charge":          func(l []api.Tenant, _ []bool) ([]api.Tenant, api.Errno) { return Charge(l, 1, 6) },
		"charge nothing":  func(l []api.Tenant, _ []bool) ([]api.Tenant, api.Errno) { return Charge(l, 1, 0) },
		"charge, refused": func(l []api.Tenant, _ []bool) ([]api.Tenant, api.Errno) { return Charge(l, 2, 1) },
		"refund":          func(l []api.Tenant, _ []bool) ([]api.Tenant, api.Errno) { return Refund(l, 2, 6) },
		"refund nothing":  func(l []api.Tenant, _ []bool) ([]api.Tenant, api.Errno) { return Refund(l, 0, 0) },
		"refund, refused": func(l []api.Tenant, _ []bool) ([]api.Tenant, api.Errno) { return Refund(l, 0, 1) },
		"wake":            func(l []api.Tenant, busy []bool) ([]api.Tenant, api.Errno) { return Wake(l, 0, busy) },
		"wake, as it was": func(l []api.Tenant, busy []bool) ([]api.Tenant, api.Errno) { return Wake(l, 2, busy) },
		"wake, refused":   func(l []api.Tenant, busy []bool) ([]api.Tenant, api.Errno) { return Wake(l, 3, busy) },
		"least":           func(l []api.Tenant, busy []bool) ([]api.Tenant, api.Errno) { _, e := Least(l, busy); return nil, e },
		"gap":             func(l []api.Tenant, _ []bool) ([]api.Tenant, api.Errno) { _, e := Gap(l, 0, 2); return nil, e },
	} {
		was := []api.Tenant{least(), ten(3, 720720), most(), ten(3, 5), most()}
		behind, busyBehind := slices.Clone(was), []bool{false, true, true, false, true}
		l, busy := behind[:3], busyBehind[:3]
		told, _ := call(l, busy)
		again, _ := call(l, busy)
		if !like(behind, was) || !slices.Equal(busyBehind, []bool{false, true, true, false, true}) {
			t.Errorf("%s: %v and %v behind it", name, behind, busyBehind)
		}
		kept := slices.Clone(told)
		scribble(behind)
		clear(busyBehind)
		if !like(told, kept) {
			t.Errorf("%s: hangs on what it was handed: %v", name, told)
		}
		scribble(told)
		if !like(again, kept) {
			t.Errorf("%s: hangs on what was answered ahead: %v", name, again)
		}
	}
}
