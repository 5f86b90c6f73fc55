package crew

import (
	"math"
	"slices"
	"testing"

	"ravel/api"
)

// P20.1

// begins is the world that begins, written out.
func begins(c api.Config) api.World {
	w := api.World{
		Ids: api.Places{Gen: make([]int64, c.Tasks), Live: make([]bool, c.Tasks)}, T: make([]api.Task, c.Tasks), Mem: make(api.Mem, c.Workers*c.Cap+2*c.Workers),
		Lists: api.Chains{Next: slices.Repeat([]int{out}, c.Tasks), Head: slices.Repeat([]int{none}, len(c.Weights)), Tail: slices.Repeat([]int{none}, len(c.Weights))},
		Fds:   slices.Repeat([]api.Fd{{Who: nobody}}, c.Fds), Idle: api.Idle{Is: make([]int, c.Workers)}, W: slices.Repeat([]api.Worker{worker(api.FindW)}, c.Workers),
	}
	for i := range c.Weights {
		w.Ten = append(w.Ten, api.Tenant{Weight: c.Weights[i], Quota: c.Quotas[i]})
	}
	for _, free := range c.Sems {
		w.Sems = append(w.Sems, api.Sem{Free: free})
	}
	return w
}

func TestStart(t *testing.T) {
	l := []api.Config{usual(), small(), great()}
	for workers := 1; workers <= 64; workers++ {
		c := usual()
		c.Workers, c.Cap = workers, 1022
		l = append(l, c)
	}
	for tasks := 1; tasks <= 256; tasks += 15 {
		c := small()
		c.Tasks, c.Quotas, c.Fds, c.Sems = tasks, []int{tasks % 3}, tasks%17, make([]int, tasks%9)
		l = append(l, c)
	}
	for i, c := range l {
		c, was := twin(c), twin(c)
		w, e := Start(c)
		if e != api.OK || !equal(w, begins(c)) || Check(c, w) != api.OK {
			t.Fatalf("%d: error %d", i, e)
		}
		if !equal(c, was) || !apart(w, c) {
			t.Errorf("%d: what was handed in is changed, or shared", i)
		}
		again, _ := Start(c)
		if !Same(w, again) || !apart(w, again) {
			t.Errorf("%d: not the same again, or shared", i)
		}
	}
}

// wrongConfigs are configs that may not be.
func wrongConfigs() []api.Config {
	l := []api.Config{{}}
	for _, change := range []func(c *api.Config){
		func(c *api.Config) { c.Workers = 0 },
		func(c *api.Config) { c.Workers = -5 },
		func(c *api.Config) { c.Workers = 65 },
		func(c *api.Config) { c.Workers, c.Cap = 64, 1023 },
		func(c *api.Config) { c.Workers = math.MaxInt },
		func(c *api.Config) { c.Workers = math.MinInt },
		func(c *api.Config) { c.Workers, c.Cap = 1<<32, 1<<32 },
		func(c *api.Config) { c.Workers, c.Cap = -1, -27 },
		func(c *api.Config) { c.Cap = 0 },
		func(c *api.Config) { c.Cap = 1025 },
		func(c *api.Config) { c.Budget = 0 },
		func(c *api.Config) { c.Budget = 101 },
		func(c *api.Config) { c.Weights = c.Weights[:2] },
		func(c *api.Config) { c.Weights[1] = 17 },
		func(c *api.Config) { c.Quotas = nil },
		func(c *api.Config) { c.Weights, c.Quotas = nil, nil },
		func(c *api.Config) { c.Quotas[0] = 257 },
		func(c *api.Config) { c.Progs = nil },
		func(c *api.Config) { c.Progs[2] = nil },
		func(c *api.Config) { c.Progs[1][0].A = 4 },
		func(c *api.Config) { c.Progs[1][2].A = 2 },
		func(c *api.Config) { c.Progs[1][1].A = 4 },
		func(c *api.Config) { c.Tasks = 0 },
		func(c *api.Config) { c.Tasks = 257 },
		func(c *api.Config) { c.Fds = -1 },
		func(c *api.Config) { c.Fds = 17 },
		func(c *api.Config) { c.Sems = c.Sems[:1] },
		func(c *api.Config) { c.Sems[1] = 1001 },
		func(c *api.Config) { c.Sems = make([]int, 9) },
	} {
		c := usual()
		change(&c)
		l = append(l, c)
	}
	return l
}

func TestWrongConfigs(t *testing.T) {
	for i, c := range wrongConfigs() {
		if w, e := Start(c); e != api.ErrArg || !equal(w, api.World{}) {
			t.Errorf("%d: Start: error %d", i, e)
		}
		for _, w := range []api.World{{}, middle(), begins(usual())} {
			tell(t, i, c, w, false)
		}
	}
	tell(t, "of nothing", usual(), api.World{}, false)
	for i, c := range []api.Config{small(), great()} {
		tell(t, i, c, middle(), false)
	}
}

// TestSame holds a world against itself, and against ones that are another in a single part.
func TestSame(t *testing.T) {
	l := append(others(), middle(), begins(usual()), begins(small()), begins(great()), api.World{})
	for i, a := range l {
		if !Same(a, twin(a)) || !Same(twin(a), a) {
			t.Errorf("%d is not the same", i)
		}
		for k, b := range l {
			if Same(a, b) != (i == k) {
				t.Errorf("%d and %d: %t", i, k, i != k)
			}
		}
	}
}

// others are worlds each of which is another one than middle, in one part; they need not be ones that may be.
func others() []api.World {
	var l []api.World
	for _, change := range []func(w *api.World){
		func(w *api.World) { w.Now++ },
		func(w *api.World) { w.Dice.At-- },
		func(w *api.World) { w.Dice.L[4]++ },
		func(w *api.World) { w.Dice.L = append(w.Dice.L, 0) },
		func(w *api.World) { w.Ids.Gen[4]++ },
		func(w *api.World) { w.Ids.Live[4] = true },
		func(w *api.World) { w.T[4].Id++ },
		func(w *api.World) { w.T[8].Tenant-- },
		func(w *api.World) { w.T[8].Prog++ },
		func(w *api.World) { w.T[8].Pc++ },
		func(w *api.World) { w.T[8].Unit++ },
		func(w *api.World) { w.T[8].Keeps[3]++ },
		func(w *api.World) { w.T[8].State++ },
		func(w *api.World) { w.T[8].Ran++ },
		func(w *api.World) { w.T = w.T[:8] },
		func(w *api.World) { w.Mem[24]++ },
		func(w *api.World) { w.Mem = w.Mem[:24] },
		func(w *api.World) { w.Lists.Next[4] = 0 },
		func(w *api.World) { w.Lists.Head[1] = 0 },
		func(w *api.World) { w.Lists.Tail[1] = 0 },
		func(w *api.World) { w.Ten[2].Weight++ },
		func(w *api.World) { w.Ten[2].Quota++ },
		func(w *api.World) { w.Ten[2].Live++ },
		func(w *api.World) { w.Ten[2].Tag++ },
		func(w *api.World) { w.Ten[2].Ran++ },
		func(w *api.World) { w.Heap[2].At++ },
		func(w *api.World) { w.Heap[2].Id++ },
		func(w *api.World) { w.Heap = w.Heap[:2] },
		func(w *api.World) { w.Fds[3].Open = false },
		func(w *api.World) { w.Fds[3].Ready = true },
		func(w *api.World) { w.Fds[3].Who = 9 },
		func(w *api.World) { slices.Reverse(w.Fds) },
		func(w *api.World) { w.Sems[0].Free++ },
		func(w *api.World) { w.Sems[1].Wait[1]++ },
		func(w *api.World) { slices.Reverse(w.Sems[1].Wait) },
		func(w *api.World) { w.Sems = w.Sems[:1] },
		func(w *api.World) { w.Joins[1].On++ },
		func(w *api.World) { w.Joins[1].Who++ },
		func(w *api.World) { slices.Reverse(w.Joins) },
		func(w *api.World) { w.Idle.Is[4]++ },
		func(w *api.World) { slices.Reverse(w.Idle.Stack) },
		func(w *api.World) { w.W[4].Do++ },
		func(w *api.World) { w.W[4].Hand.Kind-- },
		func(w *api.World) { w.W[4].Hand.Pc++ },
		func(w *api.World) { w.W[4].Hand.V++ },
		func(w *api.World) { w.W[4].Hand.T++ },
		func(w *api.World) { w.W[4].Hand.B++ },
		func(w *api.World) { w.W[4].Hand.Won = true },
		func(w *api.World) { w.W[4].Hand.State++ },
		func(w *api.World) { w.W[4].At++ },
		func(w *api.World) { w.W[4].Ask[2]-- },
		func(w *api.World) { w.W[4].Ask = w.W[4].Ask[:2] },
		func(w *api.World) { w.W[4].Task++ },
		func(w *api.World) { w.W[4].Left++ },
		func(w *api.World) { w.W[4].Kid++ },
		func(w *api.World) { w.W[4].Spill++ },
		func(w *api.World) { w.W = w.W[:4] },
		func(w *api.World) { w.Down = true },
		func(w *api.World) { w.Seen[1].Kind-- },
		func(w *api.World) { w.Seen[1].Id++ },
		func(w *api.World) { w.Seen[1].A++ },
		func(w *api.World) { w.Seen = w.Seen[:1] },
		func(w *api.World) { slices.Reverse(w.Seen) },
	} {
		l = append(l, with(middle(), change))
	}
	return l
}

// TestSameOfHeaps holds that of heaps the timers count, in whatever order, and that a list without elements may be nil.
func TestSameOfHeaps(t *testing.T) {
	a, b := middle(), middle()
	b.Heap[1], b.Heap[2] = b.Heap[2], b.Heap[1]
	if !Same(a, b) || !Same(b, a) {
		t.Error("of one heap in two orders")
	}
	if Check(usual(), b) != api.OK {
		t.Error("another order may be as well")
	}
	a, b = begins(usual()), begins(usual())
	a.Dice.L, a.Heap, a.Joins, a.Idle.Stack, a.Seen, a.Sems[0].Wait, a.W[0].Ask = []byte{}, []api.Timer{}, []api.Join{}, []int{}, []api.Event{}, []int64{}, []int{}
	if !Same(a, b) || !Same(b, a) || Check(usual(), a) != api.OK {
		t.Error("nil and empty lists")
	}
}
