package lodge

import (
	"math"
	"slices"
	"testing"

	"ravel/api"
)

// The bounds of the document's words, which stand here as numbers of their own.
const (
	mostTenants = 16
	mostWeight  = 16
	mostQuota   = 256
	mostTag     = 1 << 60
	mostRan     = 1 << 40
)

// ten is a tenant.
func ten(weight, quota, live int, tag, ran int64) api.Tenant {
	return api.Tenant{Weight: weight, Quota: quota, Live: live, Tag: tag, Ran: ran}
}

// with is a tenant that is changed.
func with(t api.Tenant, change func(t *api.Tenant)) api.Tenant {
	change(&t)
	return t
}

// usual is a tenant no part of which is at an edge, nor as another part.
func usual() api.Tenant { return ten(3, 9, 5, 720720, 44) }

// least and most are tenants all of whose parts are at an edge.
func least() api.Tenant { return ten(1, 0, 0, 0, 0) }

func most() api.Tenant { return ten(mostWeight, mostQuota, mostQuota, mostTag, mostRan) }

// single are tenants that may be, at all edges.
func single() []api.Tenant {
	l := []api.Tenant{usual(), least(), most(), ten(1, 1, 1, 0, 0), ten(16, 256, 0, 1<<60, 1<<40)}
	for weight := 1; weight <= mostWeight; weight++ {
		l = append(l, with(usual(), func(t *api.Tenant) { t.Weight = weight }))
	}
	for quota := range mostQuota + 1 {
		for _, live := range []int{0, 1, quota / 2, quota - 1, quota} {
			if live >= 0 && live <= quota {
				l = append(l, with(usual(), func(t *api.Tenant) { t.Quota, t.Live = quota, live }))
			}
		}
	}
	for _, tag := range []int64{0, 1, 720719, 1 << 32, 1 << 59, mostTag - 1, mostTag} {
		l = append(l, with(usual(), func(t *api.Tenant) { t.Tag = tag }))
	}
	for _, ran := range []int64{0, 1, 1 << 31, 1 << 32, mostRan - 1, mostRan} {
		l = append(l, with(usual(), func(t *api.Tenant) { t.Ran = ran }))
	}
	return l
}

// broken are tenants that may not be: one part of them is wrong.
func broken() []api.Tenant {
	var l []api.Tenant
	for _, weight := range []int{0, -1, -3, 17, 18, 256 + 3, 1<<32 + 3, math.MaxInt, math.MinInt, math.MinInt + 3} {
		l = append(l, with(usual(), func(t *api.Tenant) { t.Weight = weight }))
	}
	for _, quota := range []int{257, 258, 512, 1<<32 + 9, math.MaxInt} {
		for _, live := range []int{0, 5, 256, quota} {
			l = append(l, with(usual(), func(t *api.Tenant) { t.Quota, t.Live = quota, live }))
		}
	}
	for _, quota := range []int{-1, -2, -256, math.MinInt, math.MinInt + 9} {
		for _, live := range []int{0, quota, -1} {
			l = append(l, with(usual(), func(t *api.Tenant) { t.Quota, t.Live = quota, live }))
		}
	}
	for _, live := range []int{10, 11, 256, 257, 1<<32 + 5, math.MaxInt, -1, -5, math.MinInt, math.MinInt + 5} {
		l = append(l, with(usual(), func(t *api.Tenant) { t.Live = live }))
	}
	for quota := range mostQuota + 1 {
		l = append(l, ten(1, quota, quota+1, 0, 0), ten(1, quota, -1, 0, 0))
	}
	for _, tag := range []int64{-1, -2, mostTag + 1, mostTag + 2, 1 << 61, math.MaxInt64, math.MinInt64, math.MinInt64 + 1} {
		l = append(l, with(usual(), func(t *api.Tenant) { t.Tag = tag }))
	}
	for _, ran := range []int64{-1, -2, mostRan + 1, mostRan + 2, 1 << 41, mostTag, math.MaxInt64, math.MinInt64, math.MinInt64 + 44} {
		l = append(l, with(usual(), func(t *api.Tenant) { t.Ran = ran }))
	}
	return append(l, api.Tenant{}, ten(1, 0, 1, 0, 0))
}

// good are tenants that may be, of each count, with one at an edge at each place.
func good() [][]api.Tenant {
	var l [][]api.Tenant
	for n := 1; n <= mostTenants; n++ {
		l = append(l, slices.Repeat([]api.Tenant{usual()}, n), slices.Repeat([]api.Tenant{least()}, n), slices.Repeat([]api.Tenant{most()}, n))
		for at := range n {
			for _, t := range []api.Tenant{least(), most()} {
				some := slices.Repeat([]api.Tenant{usual()}, n)
				some[at] = t
				l = append(l, some)
			}
		}
	}
	for _, t := range single() {
		l = append(l, []api.Tenant{t}, []api.Tenant{usual(), t, least()})
	}
	return l
}

// bad are tenants that may not be: there are none, or too many, or one at any place is broken.
func bad() [][]api.Tenant {
	l := [][]api.Tenant{nil, {}}
	for _, n := range []int{17, 18, 32, 256 + 1, 1<<16 + 1} {
		l = append(l, slices.Repeat([]api.Tenant{usual()}, n), slices.Repeat([]api.Tenant{least()}, n))
	}
	for _, t := range broken() {
		l = append(l, []api.Tenant{t}, []api.Tenant{t, usual()}, []api.Tenant{usual(), t}, []api.Tenant{usual(), t, usual()})
	}
	for _, n := range []int{2, 15, 16, 17} {
		for at := range n {
			for _, t := range []api.Tenant{{}, with(usual(), func(t *api.Tenant) { t.Live = 10 }), with(most(), func(t *api.Tenant) { t.Ran++ })} {
				some := slices.Repeat([]api.Tenant{usual()}, n)
				some[at] = t
				l = append(l, some)
			}
		}
	}
	return l
}

// mayBe tells by the document's words, one after another, whether tenants may be.
func mayBe(l []api.Tenant) bool {
	for _, t := range l {
		if t.Weight < 1 || t.Weight > mostWeight || t.Quota < 0 || t.Quota > mostQuota || t.Live < 0 || t.Live > t.Quota {
			return false
		}
		if t.Tag < 0 || t.Tag > mostTag || t.Ran < 0 || t.Ran > mostRan {
			return false
		}
	}
	return len(l) > 0 && len(l) <= mostTenants
}

// like tells whether two are the same, part by part.
func like(a, b []api.Tenant) bool {
	if len(a) != len(b) {
		return false
	}
	for i, t := range a {
		if t.Weight != b[i].Weight || t.Quota != b[i].Quota || t.Live != b[i].Live || t.Tag != b[i].Tag || t.Ran != b[i].Ran {
			return false
		}
	}
	return true
}

// but are tenants one of which is changed.
func but(l []api.Tenant, i int, change func(t *api.Tenant)) []api.Tenant {
	l = slices.Clone(l)
	change(&l[i])
	return l
}

// holds holds that tenants are as is wanted, without an error, and may be.
func holds(t *testing.T, name string, l, want []api.Tenant, e api.Errno) {
	t.Helper()
	if !like(l, want) || e != api.OK || !mayBe(l) {
		t.Errorf("%s: %v, error %d, and not %v", name, l, e, want)
	}
}

// zero holds that there is an error, and nothing beside it.
func zero(t *testing.T, name string, l []api.Tenant, e, want api.Errno) {
	t.Helper()
	if len(l) != 0 || e != want {
		t.Errorf("%s: %v, error %d, and not error %d", name, l, e, want)
	}
}

// nowhere are places of which there is no tenant, of so many; some are one when they are cut to fewer bits.
func nowhere(n int) []int {
	return []int{-1, -2, -n, -n - 1, n, n + 1, 16, 256, 1 << 16, 1 << 32, math.MaxInt, math.MinInt, math.MinInt + 1}
}

// P14.1

func TestNew(t *testing.T) {
	for n := 1; n <= mostTenants; n++ {
		var weights, quotas []int
		var want []api.Tenant
		for i := range n {
			weights, quotas = append(weights, 16-i), append(quotas, i*17)
			want = append(want, ten(16-i, i*17, 0, 0, 0))
		}
		l, e := New(weights, quotas)
		holds(t, "new", l, want, e)
	}
	for weight := 1; weight <= mostWeight; weight++ {
		for quota := range mostQuota + 1 {
			l, e := New([]int{weight}, []int{quota})
			holds(t, "new of one", l, []api.Tenant{ten(weight, quota, 0, 0, 0)}, e)
		}
	}
}

// TestNewOfWrongNumbers sets a wrong weight, or quota, at each place.
func TestNewOfWrongNumbers(t *testing.T) {
	for n := 1; n <= mostTenants; n++ {
		for at := range n {
			for _, wrong := range []int{0, -1, 17, 18, 256, 256 + 1, 1<<32 + 1, math.MaxInt, math.MinInt, math.MinInt + 1} {
				weights, quotas := slices.Repeat([]int{1}, n), slices.Repeat([]int{4}, n)
				weights[at] = wrong
				l, e := New(weights, quotas)
				zero(t, "weight", l, e, api.ErrArg)
			}
			for _, wrong := range []int{-1, -2, -256, 257, 258, 1 << 32, math.MaxInt, math.MinInt, math.MinInt + 4} {
				weights, quotas := slices.Repeat([]int{1}, n), slices.Repeat([]int{4}, n)
				quotas[at] = wrong
				l, e := New(weights, quotas)
				zero(t, "quota", l, e, api.ErrArg)
			}
		}
	}
}

// TestNewOfWrongCounts holds that as many weights as quotas are wanted, and no more than there may be tenants.
func TestNewOfWrongCounts(t *testing.T) {
	for _, weights := range []int{0, 1, 2, 15, 16, 17, 18, 32, 257, 1<<16 + 1} {
		for _, quotas := range []int{0, 1, 2, 15, 16, 17, 18, 32, 257, 1<<16 + 1} {
			l, e := New(slices.Repeat([]int{1}, weights), slices.Repeat([]int{1}, quotas))
			if weights == quotas && weights >= 1 && weights <= mostTenants {
				holds(t, "as many", l, slices.Repeat([]api.Tenant{ten(1, 1, 0, 0, 0)}, weights), e)
			} else {
				zero(t, "not as many", l, e, api.ErrArg)
			}
		}
	}
	for _, x := range []struct{ weights, quotas []int }{{nil, nil}, {[]int{}, []int{}}, {nil, []int{}}, {nil, []int{1}}, {[]int{1}, nil}, {[]int{0}, nil}, {nil, []int{-1}}} {
		l, e := New(x.weights, x.quotas)
		zero(t, "none", l, e, api.ErrArg)
	}
}

func TestCheck(t *testing.T) {
	for _, l := range good() {
		if e := Check(l); e != api.OK || !mayBe(l) {
			t.Errorf("%v: error %d", l, e)
		}
	}
	for _, l := range bad() {
		if e := Check(l); e != api.ErrArg || mayBe(l) {
			t.Errorf("%v: error %d", l, e)
		}
	}
}

// TestCheckEachLive holds all tasks that a tenant may have against all quotas.
func TestCheckEachLive(t *testing.T) {
	for quota := -2; quota <= 259; quota++ {
		for live := -2; live <= 259; live++ {
			want := api.OK
			if quota < 0 || quota > 256 || live < 0 || live > quota {
				want = api.ErrArg
			}
			if e := Check([]api.Tenant{ten(1, quota, live, 0, 0)}); e != want {
				t.Errorf("%d of %d: error %d", live, quota, e)
			}
		}
	}
}

func TestAll(t *testing.T) {
	for _, l := range good() {
		live, ran := 0, int64(0)
		for _, x := range l {
			live, ran = live+x.Live, ran+x.Ran
		}
		if gotLive, gotRan, e := All(l); gotLive != live || gotRan != ran || e != api.OK {
			t.Errorf("%v: %d and %d, error %d", l, gotLive, gotRan, e)
		}
	}
	for _, l := range bad() {
		if live, ran, e := All(l); live != 0 || ran != 0 || e != api.ErrArg {
			t.Errorf("%v: %d and %d, error %d", l, live, ran, e)
		}
	}
	for _, x := range []struct {
		l    []api.Tenant
		live int
		ran  int64
	}{
		{[]api.Tenant{least()}, 0, 0}, {[]api.Tenant{most()}, 256, 1 << 40}, {slices.Repeat([]api.Tenant{most()}, 16), 4096, 1 << 44},
		{[]api.Tenant{ten(1, 2, 1, 8, 3), ten(2, 9, 0, 1, 0), ten(16, 40, 20, 0, 500)}, 21, 503},
	} {
		if live, ran, e := All(x.l); live != x.live || ran != x.ran || e != api.OK {
			t.Errorf("%v: %d and %d, error %d", x.l, live, ran, e)
		}
	}
}

func TestSame(t *testing.T) {
	lists := slices.Concat(good()[:60], bad()[:40])
	for i, a := range lists {
		if !Same(a, slices.Clone(a)) || !Same(a, a) {
			t.Errorf("%d: not the same as itself", i)
		}
		for k, b := range lists {
			if Same(a, b) != like(a, b) {
				t.Errorf("%d and %d: %t", i, k, Same(a, b))
			}
		}
	}
	if !Same(nil, []api.Tenant{}) || !Same([]api.Tenant{}, nil) || !Same(nil, nil) {
		t.Error("a list of none and nil are not the same")
	}
}

// TestSameButForOnePart changes each part at each place, whether what there is then may be or not.
func TestSameButForOnePart(t *testing.T) {
	for _, base := range []api.Tenant{usual(), least(), most(), {}, ten(-1, -2, -3, -4, -5)} {
		for _, n := range []int{1, 2, 16, 17, 40} {
			l := slices.Repeat([]api.Tenant{base}, n)
			for at := range n {
				for part, change := range []func(t *api.Tenant){
					func(t *api.Tenant) { t.Weight ^= 1 }, func(t *api.Tenant) { t.Quota ^= 1 }, func(t *api.Tenant) { t.Live ^= 1 },
					func(t *api.Tenant) { t.Tag ^= 1 }, func(t *api.Tenant) { t.Ran ^= 1 }, func(t *api.Tenant) { t.Weight ^= 1 << 40 },
					func(t *api.Tenant) { t.Quota ^= 1 << 40 }, func(t *api.Tenant) { t.Live ^= 1 << 40 }, func(t *api.Tenant) { t.Tag ^= 1 << 40 }, func(t *api.Tenant) { t.Ran ^= 1 << 62 },
				} {
					if other := but(l, at, change); Same(l, other) || Same(other, l) {
						t.Errorf("%v: the same, but for part %d at %d", base, part, at)
					}
				}
			}
			if Same(l, l[:n-1]) || Same(l[:n-1], l) {
				t.Errorf("%d are the same as %d", n, n-1)
			}
		}
	}
	if a, b := usual(), least(); Same([]api.Tenant{a, b}, []api.Tenant{b, a}) {
		t.Error("the same in another order")
	}
}

// P14.2

func TestAdmit(t *testing.T) {
	for _, l := range good() {
		for i, x := range l {
			got, e := Admit(l, i)
			if x.Live == x.Quota {
				zero(t, "admit", got, e, api.ErrQuota)
				continue
			}
			holds(t, "admit", got, but(l, i, func(t *api.Tenant) { t.Live++ }), e)
		}
		for _, i := range nowhere(len(l)) {
			got, e := Admit(l, i)
			zero(t, "admit nobody", got, e, api.ErrNone)
		}
	}
}

func TestLeave(t *testing.T) {
	for _, l := range good() {
		for i, x := range l {
			got, e := Leave(l, i)
			if x.Live == 0 {
				zero(t, "leave", got, e, api.ErrState)
				continue
			}
			holds(t, "leave", got, but(l, i, func(t *api.Tenant) { t.Live-- }), e)
		}
		for _, i := range nowhere(len(l)) {
			got, e := Leave(l, i)
			zero(t, "leave nobody", got, e, api.ErrNone)
		}
	}
}

func TestCount(t *testing.T) {
	for _, l := range good() {
		for i, x := range l {
			for _, units := range []int64{0, 1, 7, mostRan - x.Ran - 1, mostRan - x.Ran, mostRan - x.Ran + 1, mostRan, mostRan + 1, 1 << 60, math.MaxInt64 - x.Ran, math.MaxInt64 - 1, math.MaxInt64, -1, -2, -x.Ran, math.MinInt64, math.MinInt64 + 1} {
				got, e := Count(l, i, units)
				switch {
				case units < 0:
					zero(t, "count, below 0", got, e, api.ErrArg)
				case units > mostRan || x.Ran+units > mostRan:
					zero(t, "count, too many", got, e, api.ErrLarge)
				default:
					holds(t, "count", got, but(l, i, func(t *api.Tenant) { t.Ran += units }), e)
				}
			}
		}
	}
}

// TestCountOfNobody holds that there is no such tenant is told ahead of what is wrong with the units.
func TestCountOfNobody(t *testing.T) {
	for _, n := range []int{1, 2, 3, 15, 16} {
		for _, x := range []api.Tenant{usual(), most()} {
			l := slices.Repeat([]api.Tenant{x}, n)
			for _, i := range nowhere(n) {
				for _, units := range []int64{0, 1, mostRan, mostRan + 1, math.MaxInt64, -1, math.MinInt64} {
					got, e := Count(l, i, units)
					zero(t, "count of nobody", got, e, api.ErrNone)
				}
			}
		}
	}
}

// TestChangesOfBadTenants holds that ErrArg is ahead of all that may be wrong besides.
func TestChangesOfBadTenants(t *testing.T) {
	for _, l := range bad() {
		for _, i := range append(nowhere(len(l)), 0, 1, 2, len(l)-1) {
			got, e := Admit(l, i)
			zero(t, "admit", got, e, api.ErrArg)
			got, e = Leave(l, i)
			zero(t, "leave", got, e, api.ErrArg)
			for _, units := range []int64{0, 1, -1, mostRan + 1, math.MaxInt64} {
				got, e = Count(l, i, units)
				zero(t, "count", got, e, api.ErrArg)
			}
		}
	}
}

// R2

// scribble writes over all that a list has, behind its length as well.
func scribble(l []api.Tenant) {
	l = l[:cap(l)]
	for i := range l {
		l[i] = ten(-7, -7, -7, -7, -7)
	}
}

// TestWhoseIsWhat holds that no call changes what it was handed, whether it refuses or not, and that what it answers is the caller's own.
func TestWhoseIsWhat(t *testing.T) {
	for name, call := range map[string]func([]api.Tenant) ([]api.Tenant, api.Errno){
		"admit":          func(l []api.Tenant) ([]api.Tenant, api.Errno) { return Admit(l, 1) },
		"leave":          func(l []api.Tenant) ([]api.Tenant, api.Errno) { return Leave(l, 1) },
		"count":          func(l []api.Tenant) ([]api.Tenant, api.Errno) { return Count(l, 1, 6) },
		"count none":     func(l []api.Tenant) ([]api.Tenant, api.Errno) { return Count(l, 1, 0) },
		"admit, refused": func(l []api.Tenant) ([]api.Tenant, api.Errno) { return Admit(l, 2) },
		"leave, refused": func(l []api.Tenant) ([]api.Tenant, api.Errno) { return Leave(l, 0) },
		"count, refused": func(l []api.Tenant) ([]api.Tenant, api.Errno) { return Count(l, 2, 6) },
		"check":          func(l []api.Tenant) ([]api.Tenant, api.Errno) { return nil, Check(l) },
		"all":            func(l []api.Tenant) ([]api.Tenant, api.Errno) { _, _, e := All(l); return nil, e },
		"same":           func(l []api.Tenant) ([]api.Tenant, api.Errno) { Same(l, l[:1]); return nil, api.OK },
	} {
		was := []api.Tenant{least(), usual(), most(), usual(), most()}
		behind := slices.Clone(was)
		l := behind[:3]
		told, _ := call(l)
		again, _ := call(l)
		if !like(behind, was) {
			t.Errorf("%s: %v behind it", name, behind)
		}
		kept := slices.Clone(told)
		scribble(behind)
		if !like(told, kept) {
			t.Errorf("%s: hangs on what it was handed: %v", name, told)
		}
		scribble(told)
		if !like(again, kept) {
			t.Errorf("%s: hangs on what was answered ahead: %v", name, again)
		}
	}
}

// TestNewKeepsNothing holds the same of weights and quotas.
func TestNewKeepsNothing(t *testing.T) {
	weights, quotas := []int{1, 16, 5}, []int{256, 0, 8}
	want := []api.Tenant{ten(1, 256, 0, 0, 0), ten(16, 0, 0, 0, 0)}
	told, e := New(weights[:2], quotas[:2])
	holds(t, "new", told, want, e)
	again, _ := New(weights[:2], quotas[:2])
	if !slices.Equal(weights, []int{1, 16, 5}) || !slices.Equal(quotas, []int{256, 0, 8}) {
		t.Errorf("%v and %v behind it", weights, quotas)
	}
	for i := range weights {
		weights[i], quotas[i] = -7, -7
	}
	holds(t, "new, written over", told, want, api.OK)
	scribble(told)
	holds(t, "new again", again, want, api.OK)
}
