package cell

import (
	"math"
	"slices"
	"testing"

	"ravel/api"
)

// numbers are those at which 64 bits have their edges, and some between.
var numbers = []int64{math.MinInt64, math.MinInt64 + 1, -7, -1, 0, 1, 5, math.MaxInt64 - 1, math.MaxInt64}

// noPlaces are no places of three cells.
var noPlaces = []int{math.MinInt, -1, 3, 4, api.MaxCells, math.MaxInt}

// tooMany are cells that may not be.
func tooMany() api.Mem { return make(api.Mem, api.MaxCells+1) }

func some() api.Mem { return api.Mem{4, math.MinInt64, math.MaxInt64} }

// P1.1

func TestNew(t *testing.T) {
	for _, n := range []int{0, 1, 2, 1000, api.MaxCells - 1, api.MaxCells} {
		m, e := New(n)
		if e != api.OK || len(m) != n {
			t.Errorf("New(%d): %d cells, error %d", n, len(m), e)
		}
		if slices.ContainsFunc(m, func(x int64) bool { return x != 0 }) {
			t.Errorf("New(%d): a cell is not 0", n)
		}
	}
	for _, n := range []int{math.MinInt, -2, -1, api.MaxCells + 1, math.MaxInt} {
		if m, e := New(n); len(m) != 0 || e != api.ErrArg {
			t.Errorf("New(%d): %d cells, error %d", n, len(m), e)
		}
	}
}

func TestNewIsNew(t *testing.T) {
	a, _ := New(2)
	a[0] = 9
	if b, _ := New(2); b[0] != 0 {
		t.Errorf("what was told before shines through: %v", b)
	}
}

func TestCheck(t *testing.T) {
	for _, m := range []api.Mem{nil, {}, {0}, some(), make(api.Mem, api.MaxCells)} {
		if e := Check(m); e != api.OK {
			t.Errorf("%d cells: error %d", len(m), e)
		}
	}
	if e := Check(tooMany()); e != api.ErrArg {
		t.Errorf("too many cells: error %d", e)
	}
}

func TestSame(t *testing.T) {
	for i, x := range []struct {
		a, b api.Mem
		same bool
	}{
		{nil, nil, true},
		{nil, api.Mem{}, true},
		{api.Mem{}, nil, true},
		{some(), some(), true},
		{make(api.Mem, 1, 8), api.Mem{0}, true},
		{nil, api.Mem{0}, false},
		{api.Mem{0}, nil, false},
		{api.Mem{1, 2}, api.Mem{1, 3}, false},
		{api.Mem{1, 2}, api.Mem{3, 2}, false},
		{api.Mem{1, 2}, api.Mem{2, 1}, false},
		{api.Mem{1, 2}, api.Mem{1}, false},
		{api.Mem{1}, api.Mem{1, 0}, false},
	} {
		if Same(x.a, x.b) != x.same {
			t.Errorf("%d: Same(%v, %v) is not %t", i, x.a, x.b, x.same)
		}
	}
}

// P1.2

func TestLoad(t *testing.T) {
	for at, want := range some() {
		if x, e := Load(some(), at); x != want || e != api.OK {
			t.Errorf("at %d: %d, error %d", at, x, e)
		}
	}
}

func TestStore(t *testing.T) {
	for _, x := range numbers {
		m := some()
		if after, e := Store(m, 1, x); !slices.Equal(after, api.Mem{4, x, math.MaxInt64}) || e != api.OK {
			t.Errorf("%d: %v, error %d", x, after, e)
		}
		if !slices.Equal(m, some()) {
			t.Errorf("%d: changed what was handed in: %v", x, m)
		}
	}
}

func TestCas(t *testing.T) {
	for i, x := range []struct {
		at     int
		old, x int64
		after  api.Mem
		is     bool
	}{
		{0, 4, -2, api.Mem{-2, math.MinInt64, math.MaxInt64}, true},
		{0, 4, 4, some(), true},
		{0, 5, -2, some(), false},
		{0, -4, 4, some(), false},
		{0, -2, 4, some(), false},
		{1, math.MinInt64, 0, api.Mem{4, 0, math.MaxInt64}, true},
		{1, math.MaxInt64, 0, some(), false},
		{2, math.MaxInt64, 1, api.Mem{4, math.MinInt64, 1}, true},
		{2, 4, 1, some(), false},
	} {
		m := some()
		if after, is, e := Cas(m, x.at, x.old, x.x); !slices.Equal(after, x.after) || is != x.is || e != api.OK {
			t.Errorf("%d: %v, %t, error %d", i, after, is, e)
		}
		if !slices.Equal(m, some()) {
			t.Errorf("%d: changed what was handed in: %v", i, m)
		}
	}
}

func TestAdd(t *testing.T) {
	for i, x := range []struct {
		was, by, after int64
	}{
		{0, 0, 0},
		{4, 5, 9},
		{4, -9, -5},
		{-4, -9, -13},
		{math.MaxInt64, 0, math.MaxInt64},
		{math.MaxInt64 - 1, 1, math.MaxInt64},
		{math.MaxInt64, -1, math.MaxInt64 - 1},
		{math.MaxInt64, math.MinInt64, -1},
		{math.MinInt64, 0, math.MinInt64},
		{math.MinInt64 + 1, -1, math.MinInt64},
		{math.MinInt64, 1, math.MinInt64 + 1},
		{math.MinInt64, math.MaxInt64, -1},
		{-1, math.MinInt64 + 1, math.MinInt64},
		{0, math.MinInt64, math.MinInt64},
		{1, math.MaxInt64 - 1, math.MaxInt64},
	} {
		m := api.Mem{7, x.was}
		if after, was, e := Add(m, 1, x.by); !slices.Equal(after, api.Mem{7, x.after}) || was != x.was || e != api.OK {
			t.Errorf("%d: %v, %d, error %d", i, after, was, e)
		}
		if !slices.Equal(m, api.Mem{7, x.was}) {
			t.Errorf("%d: changed what was handed in: %v", i, m)
		}
	}
}

func TestAddGoesOver(t *testing.T) {
	for i, x := range []struct {
		was, by int64
	}{
		{math.MaxInt64, 1},
		{math.MaxInt64, math.MaxInt64},
		{1, math.MaxInt64},
		{math.MaxInt64 - 4, 5},
		{math.MinInt64, -1},
		{math.MinInt64, math.MinInt64},
		{-1, math.MinInt64},
		{math.MinInt64 + 4, -5},
	} {
		m := api.Mem{x.was}
		if after, was, e := Add(m, 0, x.by); len(after) != 0 || was != 0 || e != api.ErrLarge {
			t.Errorf("%d: %v, %d, error %d", i, after, was, e)
		}
		if m[0] != x.was {
			t.Errorf("%d: changed what was handed in: %v", i, m)
		}
	}
}

func TestNoPlace(t *testing.T) {
	for _, at := range noPlaces {
		refusedAt(t, some(), at)
	}
	refusedAt(t, nil, 0)
	refusedAt(t, api.Mem{}, 0)
}

func TestCellsThatMayNotBe(t *testing.T) {
	refusedAt(t, tooMany(), 0)
	refusedAt(t, tooMany(), api.MaxCells)
	refusedAt(t, tooMany(), -1)
	m := tooMany()
	m[0] = math.MaxInt64
	if after, was, e := Add(m, 0, 1); len(after) != 0 || was != 0 || e != api.ErrArg {
		t.Errorf("an Add that goes over: %d cells, %d, error %d", len(after), was, e)
	}
	if after, told, e := All(m, nil); len(after) != 0 || len(told) != 0 || e != api.ErrArg {
		t.Errorf("no access: %d cells, %v, error %d", len(after), told, e)
	}
}

// refusedAt asks every kind of access, and holds that all else is zero with ErrArg.
func refusedAt(t *testing.T, m api.Mem, at int) {
	t.Helper()
	if x, e := Load(m, at); x != 0 || e != api.ErrArg {
		t.Errorf("Load at %d: %d, error %d", at, x, e)
	}
	if after, e := Store(m, at, 1); len(after) != 0 || e != api.ErrArg {
		t.Errorf("Store at %d: %d cells, error %d", at, len(after), e)
	}
	if after, is, e := Cas(m, at, 0, 1); len(after) != 0 || is || e != api.ErrArg {
		t.Errorf("Cas at %d: %d cells, %t, error %d", at, len(after), is, e)
	}
	if after, was, e := Add(m, at, 1); len(after) != 0 || was != 0 || e != api.ErrArg {
		t.Errorf("Add at %d: %d cells, %d, error %d", at, len(after), was, e)
	}
	for kind := -1; kind <= 4; kind++ {
		o := api.Mic{Kind: kind, At: at, A: 1, B: 2}
		if after, told, e := Do(m, o); len(after) != 0 || told != 0 || e != api.ErrArg {
			t.Errorf("Do of %v: %d cells, %d, error %d", o, len(after), told, e)
		}
		if after, told, e := All(m, []api.Mic{o}); len(after) != 0 || len(told) != 0 || e != api.ErrArg {
			t.Errorf("All of %v: %d cells, %v, error %d", o, len(after), told, e)
		}
	}
}

func TestLastPlaceOfAll(t *testing.T) {
	m, _ := New(api.MaxCells)
	after, e := Store(m, api.MaxCells-1, 3)
	if e != api.OK || len(after) != api.MaxCells {
		t.Fatalf("%d cells, error %d", len(after), e)
	}
	if x, e := Load(after, api.MaxCells-1); x != 3 || e != api.OK {
		t.Errorf("%d, error %d", x, e)
	}
}

// P1.3

func TestDo(t *testing.T) {
	for i, x := range []struct {
		o     api.Mic
		after api.Mem
		told  int64
		e     api.Errno
	}{
		{api.Mic{}, some(), 4, api.OK},
		{api.Mic{Kind: api.LoadM, At: 2, A: 8, B: 9}, some(), math.MaxInt64, api.OK},
		{api.Mic{Kind: api.StoreM, At: 0, A: 8, B: 9}, api.Mem{8, math.MinInt64, math.MaxInt64}, 0, api.OK},
		{api.Mic{Kind: api.CasM, At: 0, A: 4, B: 9}, api.Mem{9, math.MinInt64, math.MaxInt64}, 1, api.OK},
		{api.Mic{Kind: api.CasM, At: 0, A: 9, B: 4}, some(), 0, api.OK},
		{api.Mic{Kind: api.AddM, At: 0, A: 8, B: 9}, api.Mem{12, math.MinInt64, math.MaxInt64}, 4, api.OK},
		{api.Mic{Kind: api.AddM, At: 2, A: 1}, nil, 0, api.ErrLarge},
		{api.Mic{Kind: api.AddM, At: 1, A: -1}, nil, 0, api.ErrLarge},
		{api.Mic{Kind: 4}, nil, 0, api.ErrArg},
		{api.Mic{Kind: -1}, nil, 0, api.ErrArg},
		{api.Mic{Kind: math.MaxInt}, nil, 0, api.ErrArg},
		{api.Mic{Kind: math.MinInt}, nil, 0, api.ErrArg},
	} {
		m := some()
		if after, told, e := Do(m, x.o); !slices.Equal(after, x.after) || told != x.told || e != x.e {
			t.Errorf("%d: %v, %d, error %d", i, after, told, e)
		}
		if !slices.Equal(m, some()) {
			t.Errorf("%d: changed what was handed in: %v", i, m)
		}
	}
}

func TestAll(t *testing.T) {
	for i, x := range []struct {
		m     api.Mem
		l     []api.Mic
		after api.Mem
		told  []int64
		e     api.Errno
	}{
		{nil, nil, nil, nil, api.OK},
		{some(), nil, some(), nil, api.OK},
		{some(), []api.Mic{}, some(), nil, api.OK},
		{api.Mem{0, 0}, []api.Mic{{Kind: api.AddM, A: 5}, {Kind: api.AddM, A: 5}}, api.Mem{10, 0}, []int64{0, 5}, api.OK},
		{api.Mem{1, 2}, []api.Mic{
			{Kind: api.StoreM, A: 3},
			{Kind: api.LoadM},
			{Kind: api.CasM, A: 1, B: 4},
			{Kind: api.CasM, A: 3, B: 4},
			{Kind: api.LoadM},
			{Kind: api.AddM, At: 1, A: -2},
			{Kind: api.LoadM, At: 1},
		}, api.Mem{4, 0}, []int64{0, 3, 0, 1, 4, 2, 0}, api.OK},
		{api.Mem{math.MaxInt64}, []api.Mic{{Kind: api.AddM, A: -1}, {Kind: api.AddM, A: 1}}, api.Mem{math.MaxInt64}, []int64{math.MaxInt64, math.MaxInt64 - 1}, api.OK},
		{api.Mem{math.MaxInt64}, []api.Mic{{Kind: api.AddM, A: 1}, {Kind: api.AddM, A: -1}}, nil, nil, api.ErrLarge},
		{api.Mem{math.MaxInt64}, []api.Mic{{Kind: api.AddM, A: 1}, {Kind: 4}}, nil, nil, api.ErrLarge},
		{api.Mem{math.MaxInt64}, []api.Mic{{Kind: 4}, {Kind: api.AddM, A: 1}}, nil, nil, api.ErrArg},
		{api.Mem{1}, []api.Mic{{Kind: api.StoreM, A: 3}, {At: 1}}, nil, nil, api.ErrArg},
		{nil, []api.Mic{{}}, nil, nil, api.ErrArg},
	} {
		m, l := slices.Clone(x.m), slices.Clone(x.l)
		if after, told, e := All(m, l); !slices.Equal(after, x.after) || !slices.Equal(told, x.told) || e != x.e {
			t.Errorf("%d: %v, %v, error %d", i, after, told, e)
		}
		if !slices.Equal(m, x.m) || !slices.Equal(l, x.l) {
			t.Errorf("%d: changed what was handed in: %v, %v", i, m, l)
		}
	}
}

// TestAllIsLong would not end in time if each access copied all cells.
func TestAllIsLong(t *testing.T) {
	m, _ := New(api.MaxCells)
	l := make([]api.Mic, 1<<20)
	for i := range l {
		l[i] = api.Mic{Kind: api.AddM, At: i % api.MaxCells, A: 1}
	}
	after, told, e := All(m, l)
	if e != api.OK || len(after) != api.MaxCells || len(told) != len(l) {
		t.Fatalf("%d cells, %d told, error %d", len(after), len(told), e)
	}
	if after[0] != 16 || after[api.MaxCells-1] != 16 || told[len(l)-1] != 15 {
		t.Errorf("%d, %d, %d", after[0], after[api.MaxCells-1], told[len(l)-1])
	}
}

// TestToldIsNew writes into what was told, and into what was handed in: neither may be seen in the other.
func TestToldIsNew(t *testing.T) {
	for i, call := range []func(m api.Mem) api.Mem{
		func(m api.Mem) api.Mem { after, _ := Store(m, 0, 1); return after },
		func(m api.Mem) api.Mem { after, _, _ := Cas(m, 0, 4, 1); return after },
		func(m api.Mem) api.Mem { after, _, _ := Cas(m, 0, 5, 1); return after },
		func(m api.Mem) api.Mem { after, _, _ := Add(m, 0, 0); return after },
		func(m api.Mem) api.Mem { after, _, _ := Do(m, api.Mic{}); return after },
		func(m api.Mem) api.Mem { after, _, _ := All(m, nil); return after },
		func(m api.Mem) api.Mem { after, _, _ := All(m, []api.Mic{{}}); return after },
	} {
		m := some()
		after := call(m)
		after[1] = 11
		if !slices.Equal(m, some()) {
			t.Errorf("%d: what was told is what was handed in", i)
		}
		m[2] = 12
		if after[2] != math.MaxInt64 {
			t.Errorf("%d: what was handed in is what was told", i)
		}
	}
}

// P1.4

// TestAlone goes through all accesses of some numbers: no other cell changes, and all ways to ask for one tell the same.
func TestAlone(t *testing.T) {
	for kind := api.LoadM; kind <= api.AddM; kind++ {
		for at := range some() {
			for _, a := range numbers {
				for _, b := range numbers {
					alone(t, api.Mic{Kind: kind, At: at, A: a, B: b})
				}
			}
		}
	}
}

func alone(t *testing.T, o api.Mic) {
	t.Helper()
	m := some()
	after, told, e := Do(m, o)
	listed, each, e2 := All(m, []api.Mic{o})
	if !slices.Equal(listed, after) || e2 != e || (e == api.OK) != (len(each) == 1) || (e == api.OK && each[0] != told) {
		t.Fatalf("%v: Do tells %v, %d, %d, and All %v, %v, %d", o, after, told, e, listed, each, e2)
	}
	if e != api.OK {
		return
	}
	for i := range m {
		if i != o.At && after[i] != m[i] {
			t.Fatalf("%v: cell %d changed: %v", o, i, after)
		}
	}
}

func TestStoredIsLoaded(t *testing.T) {
	for at := range some() {
		for _, x := range numbers {
			after, _ := Store(some(), at, x)
			if y, e := Load(after, at); y != x || e != api.OK {
				t.Errorf("%d at %d: %d, error %d", x, at, y, e)
			}
		}
	}
}

// TestAllIsDoAfterDo holds All against Do after Do over a run of accesses that is made by a short rule.
func TestAllIsDoAfterDo(t *testing.T) {
	m := api.Mem{0, 0, 0, 0, 0}
	var l []api.Mic
	var want []int64
	after, seed := m, 1
	for range 2000 {
		seed = (seed*1103515245 + 12345) % (1 << 31)
		o := api.Mic{Kind: seed >> 8 % 4, At: seed >> 12 % 5, A: int64(seed >> 16 % 4), B: int64(seed >> 20 % 4)}
		next, told, e := Do(after, o)
		if e != api.OK {
			t.Fatalf("%v: error %d", o, e)
		}
		after, l, want = next, append(l, o), append(want, told)
	}
	if got, told, e := All(m, l); !Same(got, after) || !slices.Equal(told, want) || e != api.OK {
		t.Errorf("All tells %v, error %d, and Do after Do %v", got, e, after)
	}
}
