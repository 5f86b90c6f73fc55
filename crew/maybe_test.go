package crew

import (
	"fmt"
	"math"
	"slices"
	"testing"

	"ravel/api"
)

// P20.1: Check, part by part.

// far are numbers at no bound of anything.
var far = []int{math.MinInt, math.MinInt + 1, math.MinInt32, -65536, -256, 1 << 31, 1 << 32, 1<<32 + 1, 1<<32 + 3, 1 << 62, math.MaxInt - 1, math.MaxInt}

// ranges holds that a number may be from least to most, and no other one.
func ranges(t *testing.T, name string, least, most int, set func(w *api.World, n int)) {
	t.Helper()
	for _, n := range append([]int{least, most, least - 1, most + 1, (least + most) / 2}, far...) {
		tell(t, fmt.Sprint(name, " ", n), usual(), with(middle(), func(w *api.World) { set(w, n) }), n >= least && n <= most)
	}
}

func TestMiddle(t *testing.T) {
	tell(t, "middle", usual(), middle(), true)
	for _, c := range []api.Config{usual(), small(), great()} {
		tell(t, c.Workers, c, begins(c), true)
	}
}

func TestNumbersOfAWorld(t *testing.T) {
	ranges(t, "Now", 0, mostTime, func(w *api.World, n int) { w.Now = int64(n) })
	ranges(t, "Dice.At", 0, 5, func(w *api.World, n int) { w.Dice.At = n })
	for _, n := range []int{0, 1, mostSeen - 1, mostSeen, mostSeen + 1, 2 * mostSeen} {
		tell(t, n, usual(), with(middle(), func(w *api.World) { w.Seen = make([]api.Event, n) }), n <= mostSeen)
	}
	// As many octets as one likes, and events that could not come.
	tell(t, "octets", usual(), with(middle(), func(w *api.World) { w.Dice.L = make([]byte, 3*mostOctets) }), true)
	tell(t, "events", usual(), with(middle(), func(w *api.World) { w.Seen = []api.Event{{Kind: -9, Id: -9, A: -9}} }), true)
	tell(t, "down", usual(), with(middle(), func(w *api.World) { w.Down = true }), true)
}

// TestHowManyOfEach takes one of each part away, and adds one that may be by itself.
func TestHowManyOfEach(t *testing.T) {
	for name, change := range map[string]func(w *api.World){
		"a place more": func(w *api.World) { w.Ids.Gen, w.Ids.Live = append(w.Ids.Gen, 0), append(w.Ids.Live, false) },
		"a place less": func(w *api.World) { w.Ids.Gen, w.Ids.Live = w.Ids.Gen[:8], w.Ids.Live[:8] },
		"a Live more":  func(w *api.World) { w.Ids.Live = append(w.Ids.Live, false) },
		"a Live less":  func(w *api.World) { w.Ids.Live = w.Ids.Live[:8] },
		"a Gen less":   func(w *api.World) { w.Ids.Gen = w.Ids.Gen[:8] },
		"a task more":  func(w *api.World) { w.T = append(w.T, api.Task{}) },
		"a task less":  func(w *api.World) { w.T = w.T[:8] },
		"no tasks":     func(w *api.World) { w.T = nil },
		"a cell more":  func(w *api.World) { w.Mem = append(w.Mem, 0) },
		"a cell less":  func(w *api.World) { w.Mem = w.Mem[:24] },
		"no cells":     func(w *api.World) { w.Mem = nil },
		"a node more":  func(w *api.World) { w.Lists.Next = append(w.Lists.Next, out) },
		"a node less":  func(w *api.World) { w.Lists.Next, w.Lists.Head[2], w.Lists.Tail[2] = w.Lists.Next[:8], none, none },
		"a list more": func(w *api.World) {
			w.Lists.Head, w.Lists.Tail = append(w.Lists.Head, none), append(w.Lists.Tail, none)
		},
		"a list less": func(w *api.World) {
			w.Lists = api.Chains{Next: []int{-1, -2, -2, -2, -2, -2, 0, -2, -2}, Head: []int{6, -1}, Tail: []int{0, -1}}
		},
		"a Head more":       func(w *api.World) { w.Lists.Head = append(w.Lists.Head, none) },
		"a Tail less":       func(w *api.World) { w.Lists.Tail = w.Lists.Tail[:2] },
		"a tenant more":     func(w *api.World) { w.Ten = append(w.Ten, api.Tenant{Weight: 1}) },
		"a tenant less":     func(w *api.World) { w.Ten = w.Ten[:2] },
		"no tenants":        func(w *api.World) { w.Ten = nil },
		"a descriptor more": func(w *api.World) { w.Fds = append(w.Fds, api.Fd{Who: nobody}) },
		"a descriptor less": func(w *api.World) { w.Fds = w.Fds[:3] },
		"a semaphore more":  func(w *api.World) { w.Sems = append(w.Sems, api.Sem{}) },
		"a semaphore less":  func(w *api.World) { w.Sems = w.Sems[:1] },
		"an idle one more":  func(w *api.World) { w.Idle.Is = append(w.Idle.Is, api.Awake) },
		"an idle one less":  func(w *api.World) { w.Idle.Is = w.Idle.Is[:4] },
		"a worker more":     func(w *api.World) { w.W = append(w.W, worker(api.FindW)) },
		"a worker less":     func(w *api.World) { w.W = w.W[:4] },
		"no workers":        func(w *api.World) { w.W = nil },
		"none at all":       func(w *api.World) { *w = api.World{} },
	} {
		tell(t, name, usual(), with(middle(), change), false)
	}
	// Of these however many.
	for name, change := range map[string]func(w *api.World){
		"no timers": func(w *api.World) { w.Heap = nil },
		"256 timers": func(w *api.World) {
			w.Heap = nil
			for i := range 256 {
				w.Heap = append(w.Heap, api.Timer{At: 50, Id: int64(i)})
			}
		},
		"no joins": func(w *api.World) { w.Joins = nil },
		"256 joins": func(w *api.World) {
			w.Joins = nil
			for i := range int64(256) {
				w.Joins = append(w.Joins, api.Join{On: i, Who: i + 1})
			}
		},
	} {
		tell(t, name, usual(), with(middle(), change), true)
	}
}

// TestPartsThatMayNotBe breaks each part that a layer below knows.
func TestPartsThatMayNotBe(t *testing.T) {
	for name, change := range map[string]func(w *api.World){
		"a generation below 0":   func(w *api.World) { w.Ids.Gen[4] = -1 },
		"a generation too much":  func(w *api.World) { w.Ids.Gen[4] = mostGen + 1 },
		"a circle":               func(w *api.World) { w.Lists.Next[0] = 6 },
		"one in two lists":       func(w *api.World) { w.Lists.Head[1], w.Lists.Tail[1] = 0, 0 },
		"a node out of bounds":   func(w *api.World) { w.Lists.Next[0] = 9 },
		"another Tail":           func(w *api.World) { w.Lists.Tail[0] = 6 },
		"Last, and in no list":   func(w *api.World) { w.Lists.Next[4] = none },
		"a weight of 0":          func(w *api.World) { w.Ten[1].Weight = 0 },
		"a weight of 17":         func(w *api.World) { w.Ten[1].Weight = 17 },
		"a quota of 257":         func(w *api.World) { w.Ten[1].Quota = 257 },
		"more than the quota":    func(w *api.World) { w.Ten[1].Live = 7 },
		"a tag below 0":          func(w *api.World) { w.Ten[1].Tag = -1 },
		"a tag too much":         func(w *api.World) { w.Ten[1].Tag = mostTag + 1 },
		"units too many":         func(w *api.World) { w.Ten[1].Ran = mostRan + 1 },
		"a timer below 0":        func(w *api.World) { w.Heap[0].At = -1 },
		"a timer too late":       func(w *api.World) { w.Heap[1].At = mostTime + 1 },
		"a timer of an id twice": func(w *api.World) { w.Heap[1].Id = 259 },
		"no heap":                func(w *api.World) { w.Heap[0].At = 44 },
		"257 timers":             func(w *api.World) { w.Heap = make([]api.Timer, 257) },
		"one shut, and ready":    func(w *api.World) { w.Fds[0].Ready = true },
		"one shut, and waited":   func(w *api.World) { w.Fds[0].Who = 9 },
		"one ready, and waited":  func(w *api.World) { w.Fds[2].Who = 9 },
		"one waits twice":        func(w *api.World) { w.Fds[3].Who = 5 },
		"a Who of -2":            func(w *api.World) { w.Fds[3].Who = -2 },
		"free, and waited":       func(w *api.World) { w.Sems[1].Free = 1 },
		"free too many":          func(w *api.World) { w.Sems[0].Free = 1001 },
		"one in line twice":      func(w *api.World) { w.Sems[1].Wait[0] = 30 },
		"a circle of joins":      func(w *api.World) { w.Joins[0].On = 42 },
		"a join twice":           func(w *api.World) { w.Joins[0].Who = 42 },
		"a join below 0":         func(w *api.World) { w.Joins[0].On = -1 },
		"257 joins":              func(w *api.World) { w.Joins = make([]api.Join, 257) },
		"idle is nothing":        func(w *api.World) { w.Idle.Is[0] = 4 },
		"idle is below 0":        func(w *api.World) { w.Idle.Is[0] = -1 },
		"one rests, not stacked": func(w *api.World) { w.Idle.Stack = w.Idle.Stack[:1] },
		"one awake is stacked":   func(w *api.World) { w.Idle.Stack[0] = 0 },
		"one is stacked twice":   func(w *api.World) { w.Idle.Stack[0] = 3 },
		"too many spin": func(w *api.World) {
			for _, i := range []int{0, 1, 4} {
				w.Idle.Is[i], w.W[i] = api.Spinning, worker(api.StealW)
			}
		},
	} {
		tell(t, name, usual(), with(middle(), change), false)
	}
	// Weights and quotas need not be the config's: only how many there are is.
	tell(t, "tenants of other weights", usual(), with(middle(), func(w *api.World) {
		w.Ten[1] = api.Tenant{Weight: 16, Quota: 256, Live: 256, Tag: mostTag, Ran: mostRan}
	}), true)
	tell(t, "semaphores of other counts", usual(), with(middle(), func(w *api.World) { w.Sems[0].Free = 1000 }), true)
	tell(t, "some may spin", usual(), with(middle(), func(w *api.World) {
		w.Idle.Is[0], w.W[0], w.Idle.Is[1], w.W[1] = api.Spinning, worker(api.StealW), api.Spinning, worker(api.StealW)
	}), true)
}

// TestTasksOfAWorld holds each part of a task that is there, and of a place where there is none.
func TestTasksOfAWorld(t *testing.T) {
	// That of place 3 sleeps: nobody else tells of it.
	ranges(t, "Id", 259, 259, func(w *api.World, n int) { w.T[3].Id = int64(n) })
	ranges(t, "Tenant", 0, 2, func(w *api.World, n int) { w.T[3].Tenant = n })
	ranges(t, "Ran", 0, mostRan, func(w *api.World, n int) { w.T[3].Ran = int64(n) })
	for _, n := range append([]int{-3, -2, -1, 0, 1, 259, 4000}, far...) {
		tell(t, fmt.Sprint("Keeps ", n), usual(), with(middle(), func(w *api.World) { w.T[3].Keeps[3] = int64(n) }), n >= -1)
	}
	ranges(t, "Prog", 0, 3, func(w *api.World, n int) { w.T[3].Prog, w.T[3].Pc = n, 0 })
	for prog, p := range usual().Progs {
		ranges(t, "Pc", 0, len(p), func(w *api.World, n int) { w.T[3].Prog, w.T[3].Pc = prog, n })
		for pc := range len(p) + 1 {
			most := 0
			if pc < len(p) && p[pc].Op == api.WorkI {
				most = p[pc].A - 1
			}
			ranges(t, "Unit", 0, most, func(w *api.World, n int) { w.T[3].Prog, w.T[3].Pc, w.T[3].Unit = prog, pc, n })
		}
	}
	// Each state but Over, as nobody has it.
	ranges(t, "State", api.Ready, api.Taking, func(w *api.World, n int) { w.T[3].State = n })
	for i, change := range []func(x *api.Task){
		func(x *api.Task) { x.Id = 3*perGen + 4 },
		func(x *api.Task) { x.Id = 1 },
		func(x *api.Task) { x.Tenant = 1 },
		func(x *api.Task) { x.Prog = 1 },
		func(x *api.Task) { x.Pc = 1 },
		func(x *api.Task) { x.Unit = 1 },
		func(x *api.Task) { x.Keeps[0] = 1 },
		func(x *api.Task) { x.Keeps = [4]int64{nobody, nobody, nobody, nobody} },
		func(x *api.Task) { x.State = api.Ready },
		func(x *api.Task) { x.State = api.Over },
		func(x *api.Task) { x.Ran = 1 },
		func(x *api.Task) { *x = task(3*perGen+4, 0, 0, api.Ready) },
	} {
		tell(t, i, usual(), with(middle(), func(w *api.World) { change(&w.T[4]) }), false)
	}
	tell(t, "one is there", usual(), with(middle(), func(w *api.World) { w.Ids.Live[4], w.T[4] = true, task(3*perGen+4, 0, 0, api.Ready) }), true)
	tell(t, "none is there", usual(), with(middle(), func(w *api.World) { w.Ids.Live[4] = true }), false)
	tell(t, "one is gone", usual(), with(middle(), func(w *api.World) { w.Ids.Live[3] = false }), false)
	tell(t, "one is gone, and nothing is there", usual(), with(middle(), func(w *api.World) { w.Ids.Live[3], w.T[3] = false, api.Task{} }), true)
	tell(t, "one of an older generation", usual(), with(middle(), func(w *api.World) { w.Ids.Gen[3]++ }), false)
	tell(t, "two change places", usual(), with(middle(), func(w *api.World) { w.T[3], w.T[5] = w.T[5], w.T[3] }), false)
	tell(t, "the greatest id", usual(), with(middle(), func(w *api.World) { w.Ids.Gen[3], w.T[3].Id = mostGen-1, (mostGen-1)*perGen+3 }), true)
	// The first place's id is 0, as that of a task of zeros: it is none yet.
	tell(t, "zeros are no task", small(), with(begins(small()), func(w *api.World) { w.Ids.Live[0] = true }), false)
	tell(t, "a new task is one", small(), with(begins(small()), func(w *api.World) { w.Ids.Live[0], w.T[0] = true, task(0, 0, 0, api.Ready) }), true)
}

// TestListsOfAWorld puts each place into each list.
func TestListsOfAWorld(t *testing.T) {
	for place := range 9 {
		for tenant := range 3 {
			w := middle()
			w.Lists = begins(usual()).Lists
			w.Lists.Next[place], w.Lists.Head[tenant], w.Lists.Tail[tenant] = none, place, place
			is := place != 4 && w.T[place].State == api.Ready && w.T[place].Tenant == tenant
			tell(t, fmt.Sprint(place, " in ", tenant), usual(), w, is)
			// Behind one that may be there.
			first := []int{6, 2, 8}[tenant]
			if first == place {
				continue
			}
			w.Lists.Next[first], w.Lists.Head[tenant] = place, first
			tell(t, fmt.Sprint(place, " in ", tenant, ", second"), usual(), w, is)
		}
	}
	for state := api.Ready; state < api.Over; state++ {
		tell(t, state, usual(), with(middle(), func(w *api.World) { w.T[6].State = state }), state == api.Ready)
		tell(t, state, usual(), with(middle(), func(w *api.World) { w.T[0].State = state }), state == api.Ready)
	}
	tell(t, "Ready, and in no list", usual(), with(middle(), func(w *api.World) { w.Lists = begins(usual()).Lists }), true)
}

func TestNumbersOfAWorker(t *testing.T) {
	ranges(t, "At", 0, 5, func(w *api.World, n int) { w.W[4].At = n })
	ranges(t, "Left", 0, 7, func(w *api.World, n int) { w.W[4].Left = n })
	ranges(t, "Spill", 0, 3, func(w *api.World, n int) { w.W[4].Spill = n })
	for at := range 3 {
		ranges(t, "Ask", 0, 4, func(w *api.World, n int) { w.W[4].Ask[at] = n })
	}
	for _, n := range []int{0, 1, 5, 6, 63, 64, 65, 100} {
		tell(t, n, usual(), with(middle(), func(w *api.World) { w.W[4].Ask = slices.Repeat([]int{3}, n) }), n <= 64)
	}
	for i := range 5 {
		tell(t, i, usual(), with(middle(), func(w *api.World) { w.W[i].At = 6 }), false)
	}
}

// TestWhatAWorkerDoes holds each thing that one does against each thing that Idle says of it.
func TestWhatAWorkerDoes(t *testing.T) {
	says := map[int]int{api.StealW: api.Spinning, api.LookW: api.Announced, api.ParkW: api.Announced, api.ParkedW: api.Parked}
	for _, do := range append([]int{-1, 0, 1, 2, 3, 4, 5, 6, 7, 8, 9, 10, 11, 12, 13, 14, 15}, far...) {
		for is := api.Awake; is <= api.Parked; is++ {
			for _, i := range []int{0, 2, 4} {
				w := begins(usual())
				w.W[i].Do, w.Idle.Is[i] = do, is
				if is >= api.Announced {
					w.Idle.Stack = []int{i}
				}
				tell(t, []int{do, is, i}, usual(), w, do >= 0 && do <= 13 && says[do] == is)
			}
		}
	}
}

// TestHandsOfAWorker goes through all accesses of all hands, and the numbers that one knows.
func TestHandsOfAWorker(t *testing.T) {
	pcs := map[int]int{api.PushH: 4, api.PopH: 7, api.StealH: 4}
	for kind := -1; kind <= 4; kind++ {
		for pc := -1; pc <= 8; pc++ {
			for state := -1; state <= 5; state++ {
				h := api.Hand{Kind: kind, Pc: pc, State: state}
				may := state == api.Going && pc >= 0 && pc < pcs[kind] || h == api.Hand{}
				hand(t, h, may)
				h.V, h.Won = -7, true
				hand(t, h, state == api.Going && pc >= 0 && pc < pcs[kind])
				if state != api.Going || pc < 0 || pc >= pcs[kind] {
					continue
				}
				for _, n := range []int64{-1, 0, 1, mostCount, mostCount + 1, -2, math.MinInt64, math.MaxInt64} {
					h.T, h.B = n, 0
					hand(t, h, n >= -1 && n <= mostCount)
					h.T, h.B = 0, n
					hand(t, h, n >= -1 && n <= mostCount)
					h.T, h.B = n, n
					hand(t, h, n >= -1 && n <= mostCount)
				}
			}
		}
	}
	for _, h := range []api.Hand{{V: 1}, {T: 1}, {B: 1}, {Won: true}, {Pc: 1}, {State: api.Done}, {B: -1}} {
		hand(t, h, false)
	}
}

// hand holds whether a worker may have a hand, whatever is in the cells.
func hand(t *testing.T, h api.Hand, may bool) {
	t.Helper()
	tell(t, h, usual(), with(middle(), func(w *api.World) { w.W[4].Hand = h }), may)
	tell(t, h, usual(), with(middle(), func(w *api.World) {
		w.W[0].Hand = h
		for i := range w.Mem {
			w.Mem[i] = -99
		}
	}), may)
}

// TestTasksOfWorkers lets workers have each id as a task, and as a kid.
func TestTasksOfWorkers(t *testing.T) {
	ids := []int64{nobody, -2, math.MinInt64, 9, 4, 3*perGen + 4, 1, 257, 513, 769, 0, 256, 2, 259, 5, 1798, 6, 7, 8, 10, 255, math.MaxInt64}
	running, ready := []int64{nobody, 513, 7}, []int64{nobody, 0, 2, 1798, 8}
	for _, id := range ids {
		w := middle()
		w.W[0].Task, w.W[3].Task, w.W[1].Kid = nobody, nobody, nobody
		w.W[4].Task = id
		tell(t, id, usual(), w, slices.Contains(running, id))
		w.W[4].Task, w.W[4].Kid = nobody, id
		tell(t, id, usual(), w, slices.Contains(ready, id))
		// Both of one worker, and of two.
		for _, kid := range ids {
			may := slices.Contains(running, id) && slices.Contains(ready, kid)
			w.W[4].Task, w.W[4].Kid, w.W[0].Kid = id, kid, nobody
			tell(t, []int64{id, kid}, usual(), w, may)
			w.W[4].Kid, w.W[0].Kid = nobody, kid
			tell(t, []int64{id, kid}, usual(), w, may)
		}
	}
	for _, x := range []struct {
		name   string
		change func(w *api.World)
		may    bool
	}{
		{"one task of two", func(w *api.World) { w.W[4].Task = 513 }, false},
		{"one task of two that rest", func(w *api.World) { w.W[2].Task = 7 }, false},
		{"one kid of two", func(w *api.World) { w.W[4].Kid = 2 }, false},
		{"other kids", func(w *api.World) { w.W[4].Kid, w.W[2].Kid, w.W[0].Kid = 0, 8, 1798 }, true},
		{"a task that waits", func(w *api.World) { w.T[1].State = api.Taking }, false},
		{"a task that is Ready", func(w *api.World) { w.T[1].State = api.Ready }, false},
		{"a kid that waits", func(w *api.World) { w.T[2].State = api.Joining }, false},
		{"a kid that is Running", func(w *api.World) { w.T[2].State = api.Running }, false},
		{"a task that is gone", func(w *api.World) { w.Ids.Live[1], w.T[1] = false, api.Task{} }, false},
		{"one Running that nobody has", func(w *api.World) { w.W[0].Task = nobody }, true},
		{"none of any", func(w *api.World) { w.W[0].Task, w.W[3].Task, w.W[1].Kid = nobody, nobody, nobody }, true},
	} {
		tell(t, x.name, usual(), with(middle(), x.change), x.may)
	}
}
