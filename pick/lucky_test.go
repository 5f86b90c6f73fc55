package pick

import (
	"math"
	"slices"
	"testing"

	"ravel/api"
)

// ten is a tenant of a weight, whose other parts are as no other ones.
func ten(weight int) api.Tenant {
	return api.Tenant{Weight: weight, Quota: 90, Live: 31, Tag: 4004, Ran: 5050}
}

// tens are tenants of those weights.
func tens(weights ...int) []api.Tenant {
	var l []api.Tenant
	for _, weight := range weights {
		l = append(l, ten(weight))
	}
	return l
}

// yes are those that are busy at the places of 1.
func yes(bits ...int) []bool {
	var busy []bool
	for _, bit := range bits {
		busy = append(busy, bit == 1)
	}
	return busy
}

// all are so many that are busy.
func all(n int) []bool { return slices.Repeat([]bool{true}, n) }

// noTenants are tenants that may not be: there are none, or too many, or one at any place has a wrong part.
func noTenants() [][]api.Tenant {
	l := [][]api.Tenant{nil, {}}
	for _, n := range []int{17, 18, 64, 256, 257} {
		l = append(l, slices.Repeat([]api.Tenant{ten(1)}, n))
	}
	for _, wrong := range []api.Tenant{
		{}, {Weight: -1}, {Weight: 17}, {Weight: 1<<32 + 1}, {Weight: math.MaxInt}, {Weight: math.MinInt},
		{Weight: 4, Quota: -1}, {Weight: 4, Quota: 257}, {Weight: 4, Quota: 3, Live: 4}, {Weight: 4, Quota: 3, Live: -1},
		{Weight: 4, Tag: -1}, {Weight: 4, Tag: 1<<60 + 1}, {Weight: 4, Ran: -1}, {Weight: 4, Ran: 1<<40 + 1},
	} {
		l = append(l, []api.Tenant{wrong}, []api.Tenant{wrong, ten(2)}, []api.Tenant{ten(2), wrong})
		for _, at := range []int{0, 7, 15} {
			some := slices.Repeat([]api.Tenant{ten(2)}, mostTenants)
			some[at] = wrong
			l = append(l, some)
		}
	}
	return l
}

// luck is who is chosen by the k-th of all weights of the busy ones, told one by one, by the words of the document alone; -1: none is busy.
func luck(d api.Dice, l []api.Tenant, busy []bool) int {
	var each []int
	for i, is := range busy {
		if is {
			each = append(each, slices.Repeat([]int{i}, l[i].Weight)...)
		}
	}
	if len(each) == 0 {
		return -1
	}
	return each[draw(d, 0)%len(each)]
}

// chooses holds one choice against the document's words.
func chooses(t *testing.T, d api.Dice, l []api.Tenant, busy []bool) {
	t.Helper()
	i, then, e := Lucky(d, l, busy)
	if want := luck(d, l, busy); want >= 0 {
		chosen(t, "lucky", i, want, then, moved(d, 1), e)
	} else {
		zero(t, "lucky, of none", i, then, e, api.ErrNone)
	}
}

// P16.3

// TestLuckyByHand holds some that were reckoned by hand.
func TestLuckyByHand(t *testing.T) {
	for i, x := range []struct {
		d       api.Dice
		weights []int
		busy    []bool
		want    int
		next    int
	}{
		{of(0, 0), []int{2, 5, 1}, yes(1, 0, 1), 0, 2},
		{of(0, 1), []int{2, 5, 1}, yes(1, 0, 1), 0, 2},
		{of(0, 2), []int{2, 5, 1}, yes(1, 0, 1), 2, 2},
		{of(0, 3), []int{2, 5, 1}, yes(1, 0, 1), 0, 2},
		{of(0, 2), []int{2, 5, 1}, yes(1, 1, 1), 1, 2},
		{of(0, 6), []int{2, 5, 1}, yes(1, 1, 1), 1, 2},
		{of(0, 7), []int{2, 5, 1}, yes(1, 1, 1), 2, 2},
		{of(0, 8), []int{2, 5, 1}, yes(1, 1, 1), 0, 2},
		{of(0, 0), []int{2, 5, 1}, yes(0, 1, 1), 1, 2},
		{of(0, 4), []int{2, 5, 1}, yes(0, 1, 1), 1, 2},
		{of(0, 5), []int{2, 5, 1}, yes(0, 1, 1), 2, 2},
		// One alone is drawn as well.
		{of(9, 9, 9), []int{2, 5, 1}, yes(0, 0, 1), 2, 2},
		{of(9, 9, 9), []int{7}, yes(1), 0, 2},
		{of(1, 4), []int{16, 16}, yes(1, 1), 0, 2},
		{of(1, 16), []int{16, 16}, yes(1, 1), 1, 2},
		// From At on, and behind the last octet.
		{odd(0), []int{3, 3}, yes(1, 1), 0, 2},
		{odd(2), []int{3, 3}, yes(1, 1), 1, 4},
		{odd(4), []int{3, 4}, yes(1, 1), 0, 5},
		{odd(5), []int{3, 4, 5}, yes(0, 1, 1), 1, 5},
		{api.Dice{}, []int{3, 4, 5}, yes(0, 0, 1), 2, 0},
	} {
		k, then, e := Lucky(x.d, tens(x.weights...), x.busy)
		chosen(t, "lucky", k, x.want, then, api.Dice{L: x.d.L, At: x.next}, e)
		if t.Failed() {
			t.Fatalf("%d: %v", i, x)
		}
	}
}

// TestLuckyOfAllSmall goes through all weights up to 4, of up to four tenants, whichever are busy.
func TestLuckyOfAllSmall(t *testing.T) {
	dice := []api.Dice{{}, of(0, 1), of(0, 6), of(1, 44), of(255, 255), odd(3), odd(4), odd(5)}
	for n := 1; n <= 4; n++ {
		for way := range 1 << (2 * n) {
			var l []api.Tenant
			for i := range n {
				l = append(l, ten(1+way>>(2*i)&3))
			}
			for bits := range 1 << n {
				busy := make([]bool, n)
				for i := range busy {
					busy[i] = bits>>i&1 == 1
				}
				chooses(t, dice[(way+bits)%len(dice)], l, busy)
			}
		}
	}
}

// TestLucky chooses of each number of tenants: all, none, one, or some are busy.
func TestLucky(t *testing.T) {
	for _, d := range good() {
		for n := 1; n <= mostTenants; n++ {
			var rising []api.Tenant
			for i := range n {
				rising = append(rising, ten(i+1))
			}
			for _, l := range [][]api.Tenant{rising, slices.Repeat([]api.Tenant{ten(16)}, n), slices.Repeat([]api.Tenant{{Weight: 1}}, n)} {
				chooses(t, d, l, all(n))
				chooses(t, d, l, make([]bool, n))
				some := make([]bool, n)
				for at := range n {
					one := make([]bool, n)
					one[at] = true
					chooses(t, d, l, one)
					some[at] = at%3 == 1
				}
				chooses(t, d, l, some)
			}
		}
	}
}

// TestLuckyByWeight goes through as many draws as there are weights together: each busy one is chosen as often as its weight says.
func TestLuckyByWeight(t *testing.T) {
	for _, x := range []struct {
		weights []int
		busy    []bool
	}{
		{[]int{1}, yes(1)},
		{[]int{2, 5, 1}, yes(1, 0, 1)},
		{[]int{2, 5, 1}, yes(1, 1, 1)},
		{[]int{16, 1, 16, 3}, yes(0, 1, 1, 0)},
		{slices.Repeat([]int{16}, mostTenants), all(mostTenants)},
		{[]int{1, 2, 3, 4, 5, 6, 7, 8, 9, 10, 11, 12, 13, 14, 15, 16}, all(mostTenants)},
	} {
		sum := 0
		for i, weight := range x.weights {
			if x.busy[i] {
				sum += weight
			}
		}
		times := make([]int, len(x.weights))
		for n := range sum {
			i, _, e := Lucky(of(byte(n/256), byte(n%256)), tens(x.weights...), x.busy)
			if e != api.OK {
				t.Fatalf("error %d", e)
			}
			times[i]++
		}
		for i, k := range times {
			if x.busy[i] && k != x.weights[i] || !x.busy[i] && k != 0 {
				t.Errorf("%v, %v: %v", x.weights, x.busy, times)
			}
		}
	}
}

// TestLuckyByWeightAlone holds that no other part of a tenant has a say.
func TestLuckyByWeightAlone(t *testing.T) {
	for _, d := range good() {
		plain := []api.Tenant{{Weight: 3}, {Weight: 1}, {Weight: 9}}
		full := []api.Tenant{{Weight: 3, Quota: 256, Live: 256, Tag: 1 << 60, Ran: 1 << 40}, {Weight: 1, Quota: 1}, {Weight: 9, Tag: 5, Ran: 1}}
		for _, busy := range [][]bool{all(3), yes(1, 0, 1), yes(0, 1, 1)} {
			i, then, e := Lucky(d, plain, busy)
			k, then2, e2 := Lucky(d, full, busy)
			if i != k || !equal(then, then2) || e != api.OK || e2 != api.OK {
				t.Errorf("%v: %d, %d", busy, i, k)
			}
		}
	}
}

// TestLuckyOfBadTenants holds that tenants that may not be are told ahead of none being busy.
func TestLuckyOfBadTenants(t *testing.T) {
	for _, d := range append(bad(), api.Dice{}, odd(1), of(0, 2)) {
		for _, l := range noTenants() {
			for _, busy := range [][]bool{nil, {true}, all(len(l)), make([]bool, len(l)), all(len(l) + 1)} {
				i, then, e := Lucky(d, l, busy)
				zero(t, "tenants that may not be", i, then, e, api.ErrArg)
			}
		}
	}
}

// TestLuckyOfOthers holds that busy has to have one for each tenant, no more and no fewer, ahead of none being busy.
func TestLuckyOfOthers(t *testing.T) {
	for n := 1; n <= mostTenants; n++ {
		l := slices.Repeat([]api.Tenant{ten(3)}, n)
		for _, other := range []int{0, 1, n - 1, n + 1, 15, 16, 17, 256, 1 << 16} {
			if other == n {
				continue
			}
			for _, busy := range [][]bool{make([]bool, other), all(other)} {
				i, then, e := Lucky(of(0, 2), l, busy)
				zero(t, "busy of others", i, then, e, api.ErrArg)
			}
		}
	}
}

// TestLuckyOfBadDice holds that bad dice are told ahead of none being busy.
func TestLuckyOfBadDice(t *testing.T) {
	for _, d := range bad() {
		for n := 1; n <= mostTenants; n++ {
			l := slices.Repeat([]api.Tenant{ten(3)}, n)
			for _, busy := range [][]bool{make([]bool, n), all(n), nil} {
				i, then, e := Lucky(d, l, busy)
				zero(t, "bad dice", i, then, e, api.ErrArg)
			}
		}
	}
}
