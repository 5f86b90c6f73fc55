package crew

import (
	"slices"
	"testing"

	"ravel/api"
)

// P20.5

// someConfig is any small config that may be.
func someConfig(next func(below int) int) api.Config {
	c := api.Config{Workers: 1 + next(6), Cap: 1 + next(4), Budget: 1 + next(5), Tasks: 1 + next(10), Fds: next(5)}
	for range 1 + next(4) {
		c.Weights, c.Quotas = append(c.Weights, 1+next(16)), append(c.Quotas, next(6))
	}
	for range next(4) {
		c.Sems = append(c.Sems, next(3))
	}
	progs := 1 + next(4)
	for range progs {
		l := []api.Instr{in(api.WorkI, 1+next(100), 0)}
		for range next(5) {
			kinds := []api.Instr{in(api.WorkI, 1+next(3), 0), in(api.SpawnI, next(progs), next(4)), in(api.YieldI, 0, 0), in(api.SleepI, 1+next(9), 0), in(api.JoinI, next(4), 0), in(api.ExitI, 0, 0)}
			if c.Fds > 0 {
				kinds = append(kinds, in(api.IoI, next(c.Fds), 0))
			}
			if n := len(c.Sems); n > 0 {
				kinds = append(kinds, in(api.TakeI, next(n), 0), in(api.GiveI, next(n), 0))
			}
			l = append(l, kinds[next(len(kinds))])
		}
		c.Progs = append(c.Progs, l)
	}
	return c
}

// order is an order of numbers from 0 on.
func order(next func(below int) int, n int) []int {
	var l []int
	for i := range n {
		l = slices.Insert(l, next(i+1), i)
	}
	return l
}

// someWorld is any world of a config that may be, whether one comes to it or not.
func someWorld(next func(below int) int, c api.Config) api.World {
	w := begins(c)
	w.Now, w.Down = int64(next(300)), next(9) == 0
	if next(9) == 0 {
		w.Now = mostTime - w.Now
	}
	w.Dice.L = make([]byte, next(9))
	w.Dice.At = next(len(w.Dice.L) + 1)
	for i := range w.Mem {
		w.Mem[i] = int64(next(9) - 2)
	}
	for i := range w.Ten {
		w.Ten[i] = api.Tenant{Weight: 1 + next(16), Quota: 5 + next(9), Live: next(6), Tag: int64(next(5)), Ran: int64(next(99))}
	}
	people(next, c, &w)
	keepers(next, c, &w)
	hire(next, c, &w)
	for range next(5) {
		w.Seen = append(w.Seen, api.Event{Kind: next(8), Id: int64(next(99)), A: next(9)})
	}
	return w
}

// people puts tasks at places, and some of those that are Ready into lists.
func people(next func(below int) int, c api.Config, w *api.World) {
	for _, at := range order(next, c.Tasks) {
		w.Ids.Gen[at] = int64(next(4))
		if next(9) == 0 {
			w.Ids.Gen[at] = mostGen - int64(next(2))
		}
		if next(3) == 0 || w.Ids.Gen[at] == mostGen {
			continue
		}
		x := task(w.Ids.Gen[at]*perGen+int64(at), next(len(c.Weights)), next(len(c.Progs)), 1+next(6))
		x.Pc, x.Ran = next(len(c.Progs[x.Prog])+1), int64(next(9))
		x.Keeps[next(4)] = int64(next(99))
		if x.Pc < len(c.Progs[x.Prog]) && c.Progs[x.Prog][x.Pc].Op == api.WorkI {
			x.Unit = next(c.Progs[x.Prog][x.Pc].A)
		}
		w.Ids.Live[at], w.T[at] = true, x
		if x.State == api.Ready && next(2) == 0 {
			goesBehind(w, at)
		}
	}
}

// keepers lets somebody wait for timers, descriptors, semaphores and others.
func keepers(next func(below int) int, c api.Config, w *api.World) {
	who := order(next, 40)
	ids := func() int64 { // each once; of places that there are, or not
		at := who[0]
		who = who[1:]
		if at < len(w.T) {
			return max(w.Ids.Gen[at]+int64(next(9)/8)-int64(next(9)/8), 0)*perGen + int64(at)
		}
		return int64(at)
	}
	at := max(0, w.Now-3)
	for range next(6) {
		w.Heap = append(w.Heap, api.Timer{At: at, Id: ids()})
		at = min(at+int64(1+next(99)), mostTime-5) + 1
	}
	for i := range w.Fds {
		w.Fds[i] = []api.Fd{{Who: nobody}, {Open: true, Who: nobody}, {Open: true, Ready: true, Who: nobody}, {Open: true, Who: ids()}}[next(4)]
	}
	for i := range w.Sems {
		w.Sems[i].Free = next(3)
		for range next(3) * (2 - w.Sems[i].Free) / 2 {
			w.Sems[i] = api.Sem{Wait: append(w.Sems[i].Wait, ids())}
		}
	}
	on := int64(5000)
	for range next(5) {
		x := ids()
		w.Joins = append(w.Joins, api.Join{On: on, Who: x})
		on = x
	}
}

// hire lets workers do something, have something, and rest in any order.
func hire(next func(below int) int, c api.Config, w *api.World) {
	spin, rest := 0, 0
	tasks := order(next, c.Tasks)
	for _, i := range order(next, c.Workers) {
		x := api.Worker{Do: next(14), At: next(c.Workers + 1), Task: nobody, Left: next(c.Budget + 1), Kid: nobody, Spill: next(c.Cap + 1)}
		if parks := x.Do == api.ParkedW; parks && 2*spin > c.Workers-rest || x.Do == api.StealW && 2*(spin+1) > c.Workers-rest+1 {
			x.Do = api.FindW
		}
		for range next(4) {
			x.Ask = append(x.Ask, next(c.Workers))
		}
		switch next(4) {
		case 1:
			x.Hand = api.Hand{Kind: api.PushH, Pc: next(4), V: int64(next(9)), T: int64(next(9) - 1), B: int64(next(9) - 1)}
		case 2:
			x.Hand = api.Hand{Kind: api.PopH, Pc: next(7), V: int64(next(9)), T: int64(next(9) - 1), B: int64(next(9) - 1), Won: next(2) == 0}
		case 3:
			x.Hand = api.Hand{Kind: api.StealH, Pc: next(4), T: mostCount, B: mostCount}
		}
		switch x.Do {
		case api.StealW:
			w.Idle.Is[i] = api.Spinning
			spin++
		case api.ParkedW:
			w.Idle.Is[i] = api.Parked
			rest++
			w.Idle.Stack = slices.Insert(w.Idle.Stack, next(len(w.Idle.Stack)+1), i)
		case api.LookW, api.ParkW:
			w.Idle.Is[i] = api.Announced
			w.Idle.Stack = slices.Insert(w.Idle.Stack, next(len(w.Idle.Stack)+1), i)
		}
		for range next(4) {
			if len(tasks) == 0 {
				break
			}
			switch t := w.T[tasks[0]]; {
			case t.State == api.Running && x.Task == nobody:
				x.Task = t.Id
			case t.State == api.Ready && x.Kid == nobody:
				x.Kid = t.Id
			}
			tasks = tasks[1:]
		}
		w.W[i] = x
	}
}

// goesOn does anything with a world, and tells the world behind that.
func goesOn(t *testing.T, next func(below int) int, c api.Config, w api.World) (api.World, api.Errno) {
	t.Helper()
	at := next(c.Tasks)
	id := w.Ids.Gen[at]*perGen + int64(at)
	if next(9) == 0 {
		id = int64(next(4000) - 5)
	}
	switch next(6) {
	case 0:
		_, told, e := spawned(t, c, w, next(len(c.Weights)+1), next(len(c.Progs)+1))
		return told, e
	case 1:
		return readied(t, c, w, id)
	case 2:
		return put(t, c, w, id)
	case 3:
		return waked(t, c, w)
	}
	kind := next(30)
	if kind >= 10 { // an end now and then only
		kind = 1 + kind%6
	}
	x := one(kind-1, next(6), 0)
	if x.Kind == api.SpawnS || x.Kind == api.DrawS {
		x.B = next(4)
	}
	if x.Kind == api.DownS {
		x.A = 0
	}
	return done(t, c, w, x)
}

// TestAnyWorld does anything with any worlds, for some while.
func TestAnyWorld(t *testing.T) {
	next := dealer(20)
	for run := range 2500 {
		c := someConfig(next)
		w := someWorld(next, c)
		tell(t, run, c, w, true)
		for range 12 {
			told, e := goesOn(t, next, c, w)
			if e == api.OK {
				w = told
			}
		}
	}
}

// TestFromTheBeginning does anything, with what workers would do between: tasks run, wait and go. No id is given twice, and who is there was admitted.
func TestFromTheBeginning(t *testing.T) {
	next := dealer(5)
	for range 60 {
		c := someConfig(next)
		w, _ := Start(c)
		for range 150 {
			if told, e := goesOn(t, next, c, w); e == api.OK {
				w = told
			}
			for i := range w.Ten {
				has := 0
				for _, x := range w.T {
					if x.State != 0 && x.Tenant == i {
						has++
					}
				}
				if w.Ten[i].Live != has || has > c.Quotas[i] {
					t.Fatalf("tenant %d has %d", i, has)
				}
			}
			w = plays(next, c, w)
			tell(t, "between", c, w, true)
		}
		born := map[int64]bool{}
		for _, x := range w.Seen {
			if x.Kind == api.BornE && born[x.Id] {
				t.Fatalf("%d is born twice", x.Id)
			}
			born[x.Id] = true
		}
	}
}

// plays lets the first one of some list run, and wait for something, or be done.
func plays(next func(below int) int, c api.Config, w api.World) api.World {
	w = twin(w)
	own := next(len(w.Ten))
	at := w.Lists.Head[own]
	if at == none {
		return w
	}
	w.Lists.Head[own] = w.Lists.Next[at]
	if w.Lists.Next[at] == none {
		w.Lists.Tail[own] = none
	}
	w.Lists.Next[at] = out
	w.Ten[own].Tag += int64(next(3))
	switch i := next(5); {
	case i == 0:
		w.Ids.Live[at], w.T[at] = false, api.Task{}
		w.Ids.Gen[at]++
		w.Ten[own].Live--
	case i == 1 && c.Fds > 0 && w.Fds[at%c.Fds] == api.Fd{Open: true, Who: nobody}:
		w.Fds[at%c.Fds].Who = w.T[at].Id
		w.T[at].State = api.Polling
	default:
		w.T[at].State = 1 + next(6)
	}
	return w
}

// TestBrokenWorlds breaks any worlds: none of the calls takes them.
func TestBrokenWorlds(t *testing.T) {
	next := dealer(77)
	for run := range 80 {
		c := someConfig(next)
		w := someWorld(next, c)
		at, i, own := next(c.Tasks), next(c.Workers), next(len(c.Weights))
		breaks := []func(w *api.World){
			func(w *api.World) { w.Now = -1 - w.Now },
			func(w *api.World) { w.Dice.At = -1 },
			func(w *api.World) { w.Ids.Live[at] = !w.Ids.Live[at] },
			func(w *api.World) { w.T[at].Id++ },
			func(w *api.World) { w.T[at].State = api.Over },
			func(w *api.World) { w.T[at].Tenant = len(c.Weights) },
			func(w *api.World) { w.T[at].Prog = len(c.Progs) },
			func(w *api.World) { w.T[at].Pc = 33 },
			func(w *api.World) { w.T[at].Unit = 100 },
			func(w *api.World) { w.Mem = append(w.Mem, 0) },
			func(w *api.World) { w.Lists.Next[at] = at },
			func(w *api.World) { w.Lists.Tail[own] = -5 },
			func(w *api.World) { w.Ten[own].Live = -1 },
			func(w *api.World) { w.Heap = append(w.Heap, api.Timer{At: -1, Id: 9999}) },
			func(w *api.World) { w.Fds = append(w.Fds, api.Fd{Who: nobody}) },
			func(w *api.World) { w.Sems = append(w.Sems, api.Sem{}) },
			func(w *api.World) { w.Joins = append(w.Joins, api.Join{On: 9999, Who: 9999}) },
			func(w *api.World) { w.Idle.Is[i] = (w.Idle.Is[i] + 2) % 4 },
			func(w *api.World) { w.Idle.Stack = append(w.Idle.Stack, i) },
			func(w *api.World) { w.W[i].Do = 14 },
			func(w *api.World) { w.W[i].Hand.State = api.Lost },
			func(w *api.World) { w.W[i].At = c.Workers + 1 },
			func(w *api.World) { w.W[i].Ask = append(w.W[i].Ask, c.Workers) },
			func(w *api.World) { w.W[i].Left = c.Budget + 1 },
			func(w *api.World) { w.W[i].Spill = c.Cap + 1 },
			func(w *api.World) { w.W[i].Task = 9999 },
			func(w *api.World) { w.W[i].Kid = -2 },
			func(w *api.World) { w.W = w.W[1:] },
		}
		for k, change := range breaks {
			broken := twin(w)
			change(&broken)
			tell(t, []int{run, k}, c, broken, false)
		}
	}
}
