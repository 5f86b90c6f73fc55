package fair

import (
	"slices"
	"testing"

	"ravel/api"
)

// P15.4

// fresh are tenants of those weights, all of the same tag.
func fresh(tag int64, weights ...int) []api.Tenant {
	var l []api.Tenant
	for _, weight := range weights {
		l = append(l, ten(weight, tag))
	}
	return l
}

// everyone is busy, of so many.
func everyone(n int) []bool { return slices.Repeat([]bool{true}, n) }

// TestTheirTurns is the document's example, and some more that were reckoned by hand.
func TestTheirTurns(t *testing.T) {
	for _, x := range []struct {
		weights []int
		units   int64
		want    []int
	}{
		{[]int{1, 2}, 1, []int{0, 1, 1, 0, 1, 1}},
		{[]int{2, 1}, 1, []int{0, 1, 0, 0, 1, 0}},
		{[]int{1, 2}, 5, []int{0, 1, 1, 0, 1, 1}},
		{[]int{1, 1, 1}, 1, []int{0, 1, 2, 0, 1, 2}},
		{[]int{3, 1}, 1, []int{0, 1, 0, 0, 0, 1, 0, 0}},
		{[]int{7}, 3, []int{0, 0, 0}},
		{[]int{16, 4, 1}, 1, []int{0, 1, 2, 0, 0, 0, 0, 1, 0, 0, 0, 0, 1}},
	} {
		for _, tag := range []int64{0, 1, 720720, 1 << 59} {
			l := fresh(tag, x.weights...)
			for at, want := range x.want {
				i, e := Least(l, everyone(len(l)))
				number(t, "whose turn it is", i, want, e, api.OK)
				next, e := Charge(l, i, x.units)
				if e != api.OK {
					t.Fatalf("%v, %d: error %d", x.weights, at, e)
				}
				l = next
			}
		}
	}
}

// share is what tenants were charged, kept in units alone: whose turn it is is told by fractions, without tags.
type share struct {
	weights []int64
	units   []int64
}

// turn is the first one of those that were charged the least by their weights.
func (s share) turn() int {
	least := 0
	for i, units := range s.units {
		if units*s.weights[least] < s.units[least]*s.weights[i] {
			least = i
		}
	}
	return least
}

// even holds that no tenant is ahead of another one by more than so many units cost it, in what it was charged by its weight, and in its tag.
func (s share) even(t *testing.T, l []api.Tenant, units int64) {
	t.Helper()
	for i, a := range s.weights {
		most, _ := Cost(int(a), units)
		for k, b := range s.weights {
			if s.units[i]*b-s.units[k]*a > units*b {
				t.Fatalf("%v: %d is ahead of %d, by %d units", s, i, k, units)
			}
			if gap, e := Gap(l, i, k); gap > most || e != api.OK {
				t.Fatalf("%v: %d and %d are %d apart, error %d, of %d units", l, i, k, gap, e, units)
			}
		}
	}
}

// TestAllWays charges the least in each way there is, some times: each time any number of units up to a bound.
func TestAllWays(t *testing.T) {
	for _, weights := range [][]int64{{1, 1}, {1, 2}, {3, 2}, {16, 1}, {1, 2, 3}, {5, 16, 7}, {2, 2, 1, 4}} {
		for units := int64(1); units <= 3; units++ {
			var ways func(l []api.Tenant, s share, left int)
			ways = func(l []api.Tenant, s share, left int) {
				i, e := Least(l, everyone(len(l)))
				number(t, "whose turn it is", i, s.turn(), e, api.OK)
				s.even(t, l, units)
				for n := int64(0); n <= units && left > 0; n++ {
					next, e := Charge(l, i, n)
					if e != api.OK {
						t.Fatalf("%v: error %d", l, e)
					}
					more := share{weights, slices.Clone(s.units)}
					more.units[i] += n
					ways(next, more, left-1)
				}
			}
			var l []api.Tenant
			for _, weight := range weights {
				l = append(l, ten(int(weight), 77))
			}
			ways(l, share{weights, make([]int64, len(weights))}, 6)
		}
	}
}

// drawn hands out a closure that draws numbers below another one, always the same.
func drawn(draw uint64) func(below int) int {
	return func(below int) int {
		draw = draw*6364136223846793005 + 1442695040888963407
		return int(draw>>20) % below
	}
}

// TestLongRuns charges the least many times; some is given back at once, as of a slice that ended early.
func TestLongRuns(t *testing.T) {
	for seed := range uint64(30) {
		next := drawn(seed)
		n, units, tag := 1+next(mostTenants), int64(1+next(100)), int64(next(2))<<50
		s := share{units: make([]int64, n)}
		var l []api.Tenant
		for range n {
			weight := 1 + next(mostWeight)
			s.weights = append(s.weights, int64(weight))
			l = append(l, ten(weight, tag))
		}
		for range 1500 {
			i, e := Least(l, everyone(n))
			number(t, "whose turn it is", i, s.turn(), e, api.OK)
			charged, e := Charge(l, i, units)
			left := int64(next(int(units) + 1))
			refunded, f := Refund(charged, i, left)
			if e != api.OK || f != api.OK {
				t.Fatalf("%v: errors %d and %d", l, e, f)
			}
			s.units[i] += units - left
			holds(t, "charged, some given back", refunded, but(l, i, tag+s.units[i]*each(int(s.weights[i]))), f)
			l = refunded
			s.even(t, l, units)
		}
	}
}

// TestByTheirWeights holds that behind many turns all were charged by their weights.
func TestByTheirWeights(t *testing.T) {
	weights := []int{1, 2, 3, 4, 16, 6}
	turns := make([]int, len(weights))
	l := fresh(0, weights...)
	for range 32 * 100 {
		i, _ := Least(l, everyone(len(l)))
		l, _ = Charge(l, i, 1)
		turns[i]++
	}
	for i, weight := range weights {
		if turns[i] != 100*weight {
			t.Errorf("of weight %d: %d turns", weight, turns[i])
		}
	}
	if gap, e := Gap(l, 4, 0); gap != 0 || e != api.OK {
		t.Errorf("%v: %d apart, error %d", l, gap, e)
	}
}

// TestSomeComeAndGo holds that who was away is waked to no more than its share: those that are busy stay as near as they were.
func TestSomeComeAndGo(t *testing.T) {
	for seed := range uint64(20) {
		next := drawn(seed + 1000)
		n, units := 2+next(mostTenants-1), int64(1+next(9))
		var l []api.Tenant
		for range n {
			l = append(l, ten(1+next(mostWeight), 5))
		}
		busy := everyone(n)
		for range 1500 {
			who := next(n)
			if woken, e := Wake(l, who, busy); !busy[who] && e == api.OK {
				l, busy[who] = woken, true
			} else if len(those(busy)) > 1 && next(3) == 0 {
				busy[who] = false
			}
			i, e := Least(l, busy)
			number(t, "whose turn it is", i, first(l, busy), e, api.OK)
			l, e = Charge(l, i, int64(next(int(units)+1)))
			if e != api.OK {
				t.Fatalf("error %d", e)
			}
			nearEnough(t, l, busy, units)
		}
	}
}

// nearEnough holds that no busy one is ahead of another busy one by more than so many units cost it.
func nearEnough(t *testing.T, l []api.Tenant, busy []bool, units int64) {
	t.Helper()
	for _, i := range those(busy) {
		most, _ := Cost(l[i].Weight, units)
		for _, k := range those(busy) {
			if gap, e := Gap(l, i, k); gap > most || e != api.OK {
				t.Fatalf("%v, %v: %d and %d are %d apart, error %d", l, busy, i, k, gap, e)
			}
		}
	}
}

// TestUpToTheGreatestTag charges till nothing goes any more: the refusal changes nothing, and what is left is less than a charge.
func TestUpToTheGreatestTag(t *testing.T) {
	for weight := 1; weight <= mostWeight; weight++ {
		start := mostTag - 10*3*each(weight) - 2
		l := fresh(start, weight)
		for n := range int64(10) {
			next, e := Charge(l, 0, 3)
			holds(t, "charge", next, fresh(start+(n+1)*3*each(weight), weight), e)
			l = next
		}
		none, e := Charge(l, 0, 1)
		zero(t, "one more", none, e, api.ErrLarge)
		holds(t, "refused", l, fresh(mostTag-2, weight), api.OK)
		i, e := Least(l, []bool{true})
		number(t, "least", i, 0, e, api.OK)
		l, e = Refund(l, 0, 30)
		holds(t, "given back", l, fresh(start, weight), e)
	}
}
