package entry

import (
	"math"
	"slices"
	"testing"

	"ravel/api"
)

// The bounds of the document's words, which stand here as numbers of their own.
const (
	mostWorkers = 64
	mostCap     = 1024
	mostCells   = 65536
	mostBudget  = 100
	mostTasks   = 256
	mostFds     = 16
	mostSems    = 8
	mostFree    = 1000
)

func in(op, a, b int) api.Instr { return api.Instr{Op: op, A: a, B: b} }

// usual is a config no part of which is at an edge, nor as another part.
func usual() api.Config {
	return api.Config{
		Workers: 3, Cap: 20, Budget: 7, Weights: []int{2, 5}, Quotas: []int{11, 13},
		Progs: [][]api.Instr{{in(api.SpawnI, 1, 2), in(api.IoI, 4, 0), in(api.JoinI, 2, 0)}, {in(api.TakeI, 1, 0), in(api.GiveI, 2, 0), in(api.ExitI, 0, 0)}},
		Tasks: 17, Fds: 6, Sems: []int{1, 0, 9},
	}
}

// least is a config of as little as may be.
func least() api.Config {
	return api.Config{Workers: 1, Cap: 1, Budget: 1, Weights: []int{1}, Quotas: []int{0}, Progs: [][]api.Instr{{in(api.YieldI, 0, 0)}}, Tasks: 1}
}

// greatest is one of as much as may be.
func greatest() api.Config {
	prog := slices.Repeat([]api.Instr{in(api.WorkI, 100, 0), in(api.SpawnI, 15, 3), in(api.SleepI, 1000, 0), in(api.IoI, 15, 0), in(api.JoinI, 3, 0), in(api.TakeI, 7, 0), in(api.GiveI, 7, 0), in(api.ExitI, 0, 0)}, 4)
	return api.Config{
		Workers: 64, Cap: 1022, Budget: 100, Weights: slices.Repeat([]int{16}, 16), Quotas: slices.Repeat([]int{256}, 16),
		Progs: slices.Repeat([][]api.Instr{prog}, 16), Tasks: 256, Fds: 16, Sems: slices.Repeat([]int{1000}, 8),
	}
}

// with is a config that is changed.
func with(c api.Config, change func(c *api.Config)) api.Config {
	change(&c)
	return c
}

// copied is a config that shares nothing with another one.
func copied(c api.Config) api.Config {
	c.Weights, c.Quotas, c.Sems = slices.Clone(c.Weights), slices.Clone(c.Quotas), slices.Clone(c.Sems)
	c.Progs = slices.Clone(c.Progs)
	for i := range c.Progs {
		c.Progs[i] = slices.Clone(c.Progs[i])
	}
	return c
}

// tell holds Config's answer against what is wanted.
func tell(t *testing.T, name any, c api.Config, may bool) {
	t.Helper()
	want := api.OK
	if !may {
		want = api.ErrArg
	}
	if e := Config(c); e != want {
		t.Errorf("%v: error %d, and not %d", name, e, want)
	}
}

// far are numbers at no bound of anything.
var far = []int{math.MinInt, math.MinInt + 1, math.MinInt + 3, math.MinInt32, -65536, -256, -3, -1, 1<<16 + 3, 1 << 31, 1<<31 + 3, 1 << 32, 1<<32 + 1, 1<<32 + 3, 1 << 48, 1 << 62, math.MaxInt - 1, math.MaxInt}

// P19.1

func TestConfigsThatMayBe(t *testing.T) {
	tell(t, "usual", usual(), true)
	tell(t, "least", least(), true)
	tell(t, "greatest", greatest(), true)
	tell(t, "nothing", api.Config{}, false)
}

// TestNumbersOfAConfig goes through each number that stands alone, through its bounds and beyond.
func TestNumbersOfAConfig(t *testing.T) {
	for name, x := range map[string]struct {
		least, most int
		set         func(c *api.Config, n int)
	}{
		"Workers": {1, mostWorkers, func(c *api.Config, n int) { c.Workers = n }},
		"Cap":     {1, mostCap, func(c *api.Config, n int) { c.Cap = n }},
		"Budget":  {1, mostBudget, func(c *api.Config, n int) { c.Budget = n }},
		"Tasks":   {1, mostTasks, func(c *api.Config, n int) { c.Tasks = n }},
		"Fds":     {5, mostFds, func(c *api.Config, n int) { c.Fds = n }}, // 4 is asked for
	} {
		for n := -3; n < 1100; n++ {
			tell(t, name, with(usual(), func(c *api.Config) { x.set(c, n) }), n >= x.least && n <= x.most)
		}
		for _, n := range far {
			tell(t, name, with(usual(), func(c *api.Config) { x.set(c, n) }), false)
		}
	}
	for fds := -3; fds < 300; fds++ {
		tell(t, fds, with(least(), func(c *api.Config) { c.Fds = fds }), fds >= 0 && fds <= mostFds)
	}
}

// TestAllDequesFit goes through all counts of workers and slots, one beyond each bound as well.
func TestAllDequesFit(t *testing.T) {
	for workers := 0; workers <= mostWorkers+1; workers++ {
		for slots := 0; slots <= mostCap+1; slots++ {
			fits := workers*slots+2*workers <= mostCells
			may := workers >= 1 && workers <= mostWorkers && slots >= 1 && slots <= mostCap && fits
			if e := Config(with(least(), func(c *api.Config) { c.Workers, c.Cap = workers, slots })); (e == api.OK) != may || e != api.OK && e != api.ErrArg {
				t.Fatalf("%d workers, %d slots: error %d", workers, slots, e)
			}
		}
	}
	// Their product goes round here, to one that fits.
	for _, x := range [][2]int{{1 << 32, 1 << 32}, {1 << 62, 2}, {1 << 33, 1<<31 - 2}, {2, 1<<63 - 2 - 1}, {64, 1<<58 - 2}, {-1, -3}, {-64, -1022}, {-1, 1022}, {64, -3}, {0, 0}} {
		tell(t, x, with(least(), func(c *api.Config) { c.Workers, c.Cap = x[0], x[1] }), false)
	}
}

func TestTenantsOfAConfig(t *testing.T) {
	for weights := range 19 {
		for quotas := range 19 {
			c := with(usual(), func(c *api.Config) {
				c.Weights, c.Quotas = slices.Repeat([]int{3}, weights), slices.Repeat([]int{4}, quotas)
			})
			tell(t, []int{weights, quotas}, c, weights == quotas && weights >= 1 && weights <= 16)
		}
	}
	for at := range 16 {
		for n := -2; n < 260; n++ {
			c := copied(greatest())
			c.Weights[at] = n
			tell(t, []int{at, n}, c, n >= 1 && n <= 16)
			c = copied(greatest())
			c.Quotas[at] = n
			tell(t, []int{at, n}, c, n >= 0 && n <= 256)
		}
		for _, n := range far {
			c := copied(greatest())
			c.Weights[at] = n
			tell(t, n, c, false)
			c = copied(greatest())
			c.Quotas[at] = n
			tell(t, n, c, false)
		}
	}
}

func TestProgramsOfAConfig(t *testing.T) {
	exits := in(api.ExitI, 0, 0)
	for i, l := range [][][]api.Instr{
		nil, {}, {nil}, {{}}, {{exits}, nil}, slices.Repeat([][]api.Instr{{exits}}, 17), {slices.Repeat([]api.Instr{exits}, 33)},
		{{in(0, 0, 0)}}, {{in(10, 0, 0)}}, {{in(-1, 0, 0)}}, {{in(api.WorkI, 0, 0)}}, {{in(api.WorkI, 101, 0)}}, {{in(api.SleepI, 1001, 0)}},
		{{in(api.SpawnI, 1, 0)}}, {{in(api.SpawnI, 0, 4)}}, {{exits, in(api.SpawnI, 2, 0)}, {exits}}, {{in(api.YieldI, 1, 0)}},
		{{in(api.IoI, -1, 0)}}, {{in(api.IoI, 0, 1)}}, {{in(api.TakeI, -1, 0)}}, {{in(api.GiveI, -1, 0)}}, {{in(api.GiveI, math.MinInt, 0)}},
		{{in(api.IoI, 16, 0)}}, {{in(api.TakeI, 8, 0)}}, {{in(api.GiveI, 8, 0)}},
	} {
		tell(t, i, with(greatest(), func(c *api.Config) { c.Progs = l }), false)
	}
	// That one comes to spawn itself is no matter here.
	for i, l := range [][][]api.Instr{
		{{exits}}, {{in(api.SpawnI, 0, 0)}}, {{in(api.SpawnI, 1, 3)}, {in(api.SpawnI, 0, 3)}}, slices.Repeat([][]api.Instr{slices.Repeat([]api.Instr{exits}, 32)}, 16),
	} {
		tell(t, i, with(least(), func(c *api.Config) { c.Progs = l }), true)
	}
}

// TestWhatProgramsAskFor lets programs ask, at any place, for any descriptor or semaphore, of any count of these.
func TestWhatProgramsAskFor(t *testing.T) {
	yields := in(api.YieldI, 0, 0)
	for fds := range mostFds + 1 {
		for sems := range mostSems + 1 {
			for _, progs := range []int{1, 2, 16} {
				for _, at := range [][2]int{{0, 0}, {progs - 1, 0}, {progs - 1, 31}, {0, 15}} {
					c := with(least(), func(c *api.Config) { c.Fds, c.Sems = fds, make([]int, sems) })
					c.Progs = slices.Repeat([][]api.Instr{slices.Repeat([]api.Instr{yields}, 32)}, progs)
					for a := range mostFds {
						for _, op := range []int{api.IoI, api.TakeI, api.GiveI} {
							if op != api.IoI && a >= mostSems {
								continue
							}
							c = copied(c)
							c.Progs[at[0]][at[1]] = in(op, a, 0)
							tell(t, []int{fds, sems, progs, at[0], at[1], op, a}, c, op == api.IoI && a < fds || op != api.IoI && a < sems)
						}
					}
				}
			}
		}
	}
}

// TestNumbersThatAskForNothing holds that all other instructions need neither descriptors nor semaphores, and one behind an exit does.
func TestNumbersThatAskForNothing(t *testing.T) {
	exits := in(api.ExitI, 0, 0)
	c := with(least(), func(c *api.Config) { c.Progs = slices.Repeat([][]api.Instr{{exits}}, 16) })
	for _, x := range []api.Instr{in(api.WorkI, 100, 0), in(api.SpawnI, 15, 3), in(api.SleepI, 1000, 0), in(api.JoinI, 3, 0), exits, in(api.YieldI, 0, 0)} {
		c.Progs[3] = []api.Instr{x, exits, x}
		tell(t, x, c, true)
	}
	for _, x := range []api.Instr{in(api.IoI, 0, 0), in(api.TakeI, 0, 0), in(api.GiveI, 0, 0)} {
		c.Progs[3] = []api.Instr{exits, x}
		tell(t, x, c, false)
	}
	c = with(c, func(c *api.Config) { c.Fds = 16 })
	c.Progs[3] = []api.Instr{in(api.IoI, 15, 0)}
	tell(t, "descriptors alone", c, true)
	c.Progs[3] = []api.Instr{in(api.IoI, 15, 0), in(api.TakeI, 0, 0)}
	tell(t, "descriptors alone, and one asks for a semaphore", c, false)
	c = with(c, func(c *api.Config) { c.Fds, c.Sems = 0, make([]int, 8) })
	c.Progs[3] = []api.Instr{in(api.TakeI, 7, 0), in(api.GiveI, 7, 0)}
	tell(t, "semaphores alone", c, true)
	c.Progs[3] = []api.Instr{in(api.TakeI, 7, 0), in(api.GiveI, 7, 0), in(api.IoI, 0, 0)}
	tell(t, "semaphores alone, and one asks for a descriptor", c, false)
}

func TestSemaphoresOfAConfig(t *testing.T) {
	for sems := range 20 {
		tell(t, sems, with(least(), func(c *api.Config) { c.Sems = make([]int, sems) }), sems <= mostSems)
		for at := range min(sems, mostSems) {
			for _, free := range append([]int{-2, 0, 1, 2, 500, 999, mostFree, mostFree + 1, 1002, 2000}, far...) {
				c := with(least(), func(c *api.Config) { c.Sems = make([]int, sems) })
				c.Sems[at] = free
				tell(t, []int{sems, at, free}, c, sems <= mostSems && free >= 0 && free <= mostFree)
			}
		}
	}
}

// others are configs each of which is another one than usual, in one part.
func others() []api.Config {
	var l []api.Config
	for _, change := range []func(c *api.Config){
		func(c *api.Config) { c.Workers++ },
		func(c *api.Config) { c.Workers, c.Cap = c.Cap, c.Workers },
		func(c *api.Config) { c.Cap-- },
		func(c *api.Config) { c.Budget = 0 },
		func(c *api.Config) { c.Budget, c.Tasks = c.Tasks, c.Budget },
		func(c *api.Config) { c.Tasks++ },
		func(c *api.Config) { c.Fds = math.MinInt },
		func(c *api.Config) { c.Weights[0]++ },
		func(c *api.Config) { c.Weights[1]++ },
		func(c *api.Config) { c.Weights = nil },
		func(c *api.Config) { c.Weights = c.Weights[:1] },
		func(c *api.Config) { c.Weights = append(c.Weights, 0) },
		func(c *api.Config) { slices.Reverse(c.Weights) },
		func(c *api.Config) { c.Weights, c.Quotas = c.Quotas, c.Weights },
		func(c *api.Config) { c.Quotas[0]++ },
		func(c *api.Config) { c.Quotas[1]-- },
		func(c *api.Config) { c.Quotas = c.Quotas[1:] },
		func(c *api.Config) { c.Quotas = append(c.Quotas, 0) },
		func(c *api.Config) { slices.Reverse(c.Quotas) },
		func(c *api.Config) { c.Sems[0]++ },
		func(c *api.Config) { c.Sems[2]++ },
		func(c *api.Config) { c.Sems = nil },
		func(c *api.Config) { c.Sems = c.Sems[:2] },
		func(c *api.Config) { c.Sems = append(c.Sems, 0) },
		func(c *api.Config) { slices.Reverse(c.Sems) },
		func(c *api.Config) { c.Progs = nil },
		func(c *api.Config) { c.Progs = c.Progs[:1] },
		func(c *api.Config) { c.Progs = append(c.Progs, nil) },
		func(c *api.Config) { slices.Reverse(c.Progs) },
		func(c *api.Config) { c.Progs[0] = c.Progs[0][:2] },
		func(c *api.Config) { c.Progs[1][2].Op++ },
		func(c *api.Config) { c.Progs[1][0].A++ },
		func(c *api.Config) { c.Progs[0][0].B++ },
		func(c *api.Config) { c.Progs[0] = append(c.Progs[0], api.Instr{}) },
	} {
		l = append(l, with(copied(usual()), change))
	}
	return l
}

func TestSame(t *testing.T) {
	l := append(others(), usual(), least(), greatest(), api.Config{})
	for i, a := range l {
		for k, b := range l {
			if Same(a, copied(b)) != (i == k) {
				t.Errorf("%d and %d: %t", i, k, i != k)
			}
		}
	}
}

// TestSameOfNothing holds that nil lists and empty ones are the same.
func TestSameOfNothing(t *testing.T) {
	none := api.Config{Workers: -1, Weights: []int{}, Quotas: []int{}, Sems: []int{}, Progs: [][]api.Instr{}}
	if !Same(none, api.Config{Workers: -1}) || !Same(api.Config{Workers: -1}, none) {
		t.Error("nil and empty lists")
	}
	if !Same(api.Config{Progs: [][]api.Instr{nil}}, api.Config{Progs: [][]api.Instr{{}}}) || Same(api.Config{Progs: [][]api.Instr{nil}}, api.Config{}) {
		t.Error("nil and empty programs")
	}
}

// TestConfigsAreLeft holds that configs that are handed in are not changed.
func TestConfigsAreLeft(t *testing.T) {
	for i, c := range append(others(), usual(), least(), greatest()) {
		was := copied(c)
		Config(c)
		Same(c, usual())
		Same(usual(), c)
		if !Same(c, was) {
			t.Errorf("%d: changed what was handed in", i)
		}
	}
}
