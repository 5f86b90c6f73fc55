package code

import (
	"math"
	"slices"
	"testing"

	"ravel/api"
)

func in(op, a, b int) api.Instr { return api.Instr{Op: op, A: a, B: b} }

// Instructions of which a test needs many.
var (
	yields = in(api.YieldI, 0, 0)
	exits  = in(api.ExitI, 0, 0)
)

func works(a int) api.Instr { return in(api.WorkI, a, 0) }

func spawns(a int) api.Instr { return in(api.SpawnI, a, 0) }

// times is an instruction, so many times.
func times(x api.Instr, n int) []api.Instr { return slices.Repeat([]api.Instr{x}, n) }

// join is several parts of a program, one behind the other.
func join(parts ...[]api.Instr) []api.Instr { return slices.Concat(parts...) }

// bounds are the numbers that an instruction may have, by the document's table alone.
var bounds = map[int]struct{ least, most, second int }{
	api.WorkI:  {1, 100, 0},
	api.SpawnI: {0, 15, 3},
	api.YieldI: {0, 0, 0},
	api.SleepI: {1, 1000, 0},
	api.IoI:    {0, 15, 0},
	api.JoinI:  {0, 3, 0},
	api.TakeI:  {0, 7, 0},
	api.GiveI:  {0, 7, 0},
	api.ExitI:  {0, 0, 0},
}

// mayBe is may, by that table.
func mayBe(x api.Instr) bool {
	is, there := bounds[x.Op]
	return there && x.A >= is.least && x.A <= is.most && x.B >= 0 && x.B <= is.second
}

// allMayBe is CheckAll, by that table.
func allMayBe(l [][]api.Instr) bool {
	for _, p := range l {
		for _, x := range p {
			if !mayBe(x) || x.Op == api.SpawnI && x.A >= len(l) {
				return false
			}
		}
		if len(p) < 1 || len(p) > 32 {
			return false
		}
	}
	return len(l) >= 1 && len(l) <= 16
}

// edges are numbers at which an instruction's bounds are, beside them, and far off.
var edges = []int{
	math.MinInt, math.MinInt32, -65536, -256, -1, 0, 1, 2, 3, 4, 5, 7, 8, 9, 15, 16, 17, 31, 32, 99, 100, 101, 255, 256, 257, 259,
	999, 1000, 1001, 65535, 65536, 65537, 1 << 32, 1<<32 + 1, math.MaxInt,
}

// dealer tells numbers below another one, by a short rule.
func dealer(seed uint64) func(below int) int {
	return func(below int) int {
		seed = seed*6364136223846793005 + 1442695040888963407
		return int(seed >> 33 % uint64(below))
	}
}

// mixed are programs of all kinds that may be; where up holds, each one spawns only those behind it.
func mixed(next func(below int) int, up bool) [][]api.Instr {
	l := make([][]api.Instr, 1+next(api.MaxProgs))
	for i := range l {
		l[i] = make([]api.Instr, 1+next(api.MaxCode))
		for k := range l[i] {
			l[i][k] = one(next, i, len(l), up)
		}
	}
	return l
}

// one is an instruction of program i of many.
func one(next func(below int) int, i, many int, up bool) api.Instr {
	op := 1 + next(20)
	if op > api.ExitI { // many spawn
		op = api.SpawnI
	}
	if op == api.SpawnI && up {
		if i == many-1 {
			return yields
		}
		return in(op, i+1+next(many-i-1), next(api.Slots))
	}
	is := bounds[op]
	most := is.most
	if op == api.SpawnI {
		most = many - 1
	}
	return in(op, is.least+next(most-is.least+1), next(is.second+1))
}

// copied are programs that share nothing with others.
func copied(l [][]api.Instr) [][]api.Instr {
	var c [][]api.Instr
	for _, p := range l {
		c = append(c, slices.Clone(p))
	}
	return c
}

// unlike holds programs against others, one by one.
func unlike(a, b [][]api.Instr) bool { return !slices.EqualFunc(a, b, slices.Equal[[]api.Instr]) }

// manyProgs are so many programs that do nothing.
func manyProgs(n int) [][]api.Instr { return slices.Repeat([][]api.Instr{{yields}}, n) }

// badProgs are programs that may not be each by itself.
func badProgs() [][]api.Instr {
	return [][]api.Instr{
		nil, {}, times(yields, 33), times(exits, 33), times(yields, 1000),
		{{}}, {in(10, 0, 0)}, {in(-1, 0, 0)}, {works(0)}, {works(101)}, {works(-1)}, {spawns(16)}, {in(api.SpawnI, 0, 4)},
		{works(1), works(0)}, {works(0), works(1)}, {yields, yields, in(api.YieldI, 0, 1)},
		// What stands behind an exit must be right as well.
		{exits, works(0)}, {exits, in(api.ExitI, 1, 0)}, join(times(exits, 31), []api.Instr{{}}),
	}
}

// badLists are programs that may not be together.
func badLists() [][][]api.Instr {
	l := [][][]api.Instr{
		nil, {}, manyProgs(17), manyProgs(1000),
		{{spawns(1)}}, {{spawns(15)}}, {{spawns(2)}, {yields}}, {{yields}, {spawns(2)}}, {{yields}, {yields, spawns(3), yields}, {yields}},
		append(manyProgs(14), []api.Instr{spawns(15)}),
		// A spawn behind an exit must be of a program that there is as well.
		{{exits, spawns(1)}}, {{yields}, {exits, spawns(2)}},
	}
	for _, p := range badProgs() {
		l = append(l, [][]api.Instr{p}, [][]api.Instr{p, {yields}}, [][]api.Instr{{yields}, p}, append(manyProgs(15), p), append([][]api.Instr{p}, manyProgs(15)...))
	}
	return l
}

// P4.1

// TestEachInstruction goes through all kinds, and all edges of their numbers.
func TestEachInstruction(t *testing.T) {
	for _, op := range append(edges, 6, 10, 11, 12) {
		for _, a := range edges {
			for _, b := range edges {
				x, want := in(op, a, b), api.OK
				if !mayBe(x) {
					want = api.ErrArg
				}
				if e := Check([]api.Instr{x}); e != want {
					t.Errorf("%v: error %d, and not %d", x, e, want)
				}
			}
		}
	}
}

func TestCheck(t *testing.T) {
	for i, p := range [][]api.Instr{
		{yields}, {exits}, {works(1), exits}, {exits, works(100)}, times(works(100), 32), times(exits, 32), times(in(api.SpawnI, 15, 3), 31),
		// Whether there is such a program is not asked of one alone.
		{spawns(0)}, {spawns(15)},
	} {
		if e := Check(p); e != api.OK {
			t.Errorf("%d: error %d", i, e)
		}
	}
	for i, p := range badProgs() {
		if e := Check(p); e != api.ErrArg {
			t.Errorf("%d: error %d", i, e)
		}
	}
}

// TestCheckLooksAtAll puts one that may not be at each place of the longest program.
func TestCheckLooksAtAll(t *testing.T) {
	for i := range api.MaxCode {
		p := times(yields, api.MaxCode)
		p[i] = works(101)
		if e := Check(p); e != api.ErrArg {
			t.Errorf("at %d: error %d", i, e)
		}
	}
}

func TestCheckAll(t *testing.T) {
	for i, l := range [][][]api.Instr{
		{{yields}}, {{spawns(0)}}, {{spawns(1)}, {spawns(0)}}, {{exits, spawns(1)}, {yields}},
		manyProgs(16), append(manyProgs(15), []api.Instr{spawns(15)}), append([][]api.Instr{times(spawns(15), 32)}, manyProgs(15)...),
		slices.Repeat([][]api.Instr{times(spawns(15), 32)}, 16),
	} {
		if e := CheckAll(l); e != api.OK {
			t.Errorf("%d: error %d", i, e)
		}
	}
	for i, l := range badLists() {
		if e := CheckAll(l); e != api.ErrArg {
			t.Errorf("%d: error %d", i, e)
		}
	}
}

// TestCheckAllOfSpawns asks of any number of programs which of them one may spawn.
func TestCheckAllOfSpawns(t *testing.T) {
	for many := 1; many <= api.MaxProgs; many++ {
		for i := range many {
			for of := range api.MaxProgs {
				l, want := manyProgs(many), api.OK
				l[i] = []api.Instr{yields, spawns(of)}
				if of >= many {
					want = api.ErrArg
				}
				if e := CheckAll(l); e != want {
					t.Errorf("%d programs, %d spawns %d: error %d", many, i, of, e)
				}
			}
		}
	}
}

func TestUnits(t *testing.T) {
	for i, x := range []struct {
		p []api.Instr
		n int
	}{
		{[]api.Instr{works(1)}, 1},
		{[]api.Instr{works(100)}, 100},
		{[]api.Instr{works(7), works(8)}, 15},
		{times(works(100), 32), 3200},
		{times(yields, 32), 32},
		{[]api.Instr{spawns(15)}, 1},
		{[]api.Instr{in(api.SpawnI, 5, 3)}, 1},
		{[]api.Instr{in(api.SleepI, 1000, 0)}, 1},
		{[]api.Instr{in(api.IoI, 15, 0)}, 1},
		{[]api.Instr{in(api.JoinI, 3, 0)}, 1},
		{[]api.Instr{in(api.TakeI, 7, 0)}, 1},
		{[]api.Instr{in(api.GiveI, 7, 0)}, 1},
		// Up to the first exit, and with it.
		{[]api.Instr{exits}, 1},
		{[]api.Instr{exits, works(100)}, 1},
		{[]api.Instr{exits, exits}, 1},
		{[]api.Instr{works(5), exits}, 6},
		{[]api.Instr{works(5), exits, works(50), exits}, 6},
		{[]api.Instr{works(5), yields, works(6), exits, yields, works(9)}, 13},
		{join(times(works(100), 31), []api.Instr{exits}), 3101},
		{times(exits, 32), 1},
	} {
		p := slices.Clone(x.p)
		if n, e := Units(p); n != x.n || e != api.OK {
			t.Errorf("%d: %d, error %d, and not %d", i, n, e, x.n)
		}
		if !slices.Equal(p, x.p) {
			t.Errorf("%d: changed what was handed in: %v", i, p)
		}
	}
}

func TestUnitsOfWhatMayNotBe(t *testing.T) {
	for i, p := range badProgs() {
		if n, e := Units(p); n != 0 || e != api.ErrArg {
			t.Errorf("%d: %d, error %d", i, n, e)
		}
	}
}

func TestSame(t *testing.T) {
	a := func() [][]api.Instr { return [][]api.Instr{{works(1), yields}, {in(api.SpawnI, 1, 2)}} }
	for i, x := range []struct {
		a, b [][]api.Instr
		is   bool
	}{
		{a(), a(), true},
		{nil, nil, true},
		{nil, [][]api.Instr{}, true},
		{[][]api.Instr{nil}, [][]api.Instr{{}}, true},
		{badLists()[3], badLists()[3], true},
		{[][]api.Instr{{in(77, -1, 9)}}, [][]api.Instr{{in(77, -1, 9)}}, true},
		{[][]api.Instr{{in(77, -1, 9)}}, [][]api.Instr{{in(77, -1, 8)}}, false},
		{nil, [][]api.Instr{nil}, false},
		{[][]api.Instr{nil}, [][]api.Instr{nil, nil}, false},
		{[][]api.Instr{nil}, [][]api.Instr{{{}}}, false},
		{a(), a()[:1], false},
		{a(), append(a(), nil), false},
		{a(), [][]api.Instr{a()[1], a()[0]}, false},
		{a(), [][]api.Instr{{works(1)}, {in(api.SpawnI, 1, 2)}}, false},
		{a(), [][]api.Instr{{yields, works(1)}, {in(api.SpawnI, 1, 2)}}, false},
		{a(), [][]api.Instr{{works(1), yields}, {in(api.JoinI, 1, 2)}}, false},
		{a(), [][]api.Instr{{works(1), yields}, {in(api.SpawnI, 2, 2)}}, false},
		{a(), [][]api.Instr{{works(1), yields}, {in(api.SpawnI, 1, 1)}}, false},
		// The same instructions, laid upon programs in another way.
		{[][]api.Instr{{yields, yields}, {yields}}, [][]api.Instr{{yields}, {yields, yields}}, false},
		{[][]api.Instr{{yields, yields}}, [][]api.Instr{{yields}, {yields}}, false},
		// One behind an exit is a part too.
		{[][]api.Instr{{exits, works(1)}}, [][]api.Instr{{exits, works(2)}}, false},
		{[][]api.Instr{{exits, works(1)}}, [][]api.Instr{{exits}}, false},
	} {
		if Same(x.a, x.b) != x.is || Same(x.b, x.a) != x.is {
			t.Errorf("%d: %v, %v: not %t", i, x.a, x.b, x.is)
		}
	}
}
