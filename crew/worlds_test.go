package crew

import (
	"math"
	"reflect"
	"slices"
	"testing"

	"ravel/api"
)

// The bounds of the document's words, which stand here as numbers of their own.
const (
	mostTime   = 1 << 50
	mostSeen   = 65536
	mostOctets = 65536
	mostRan    = 1 << 40
	mostTag    = 1 << 60
	mostGen    = 1 << 40
	mostCount  = 1 << 40
	perGen     = 256
	nobody     = -1
	none       = -1 // no node of a list
	out        = -2 // in no list
)

func in(op, a, b int) api.Instr { return api.Instr{Op: op, A: a, B: b} }

func one(kind, a, b int) api.Entry { return api.Entry{Kind: kind, A: a, B: b} }

// usual is a config no part of which is at an edge.
func usual() api.Config {
	return api.Config{
		Workers: 5, Cap: 3, Budget: 7, Weights: []int{2, 5, 1}, Quotas: []int{5, 6, 4},
		Progs: [][]api.Instr{
			{in(api.WorkI, 5, 0), in(api.YieldI, 0, 0)},
			{in(api.IoI, 1, 0), in(api.SpawnI, 0, 2), in(api.TakeI, 1, 0), in(api.WorkI, 3, 0)},
			{in(api.SleepI, 3, 0)},
			{in(api.ExitI, 0, 0)},
		},
		Tasks: 9, Fds: 4, Sems: []int{4, 0},
	}
}

// small is a config of as little as may be.
func small() api.Config {
	return api.Config{Workers: 1, Cap: 1, Budget: 1, Weights: []int{1}, Quotas: []int{1}, Progs: [][]api.Instr{{in(api.YieldI, 0, 0)}}, Tasks: 1}
}

// great is one of as much as may be.
func great() api.Config {
	return twin(api.Config{
		Workers: 64, Cap: 1022, Budget: 100, Weights: slices.Repeat([]int{16}, 16), Quotas: slices.Repeat([]int{256}, 16),
		Progs: slices.Repeat([][]api.Instr{slices.Repeat([]api.Instr{in(api.WorkI, 100, 0)}, 32)}, 16),
		Tasks: 256, Fds: 16, Sems: slices.Repeat([]int{1000}, 8),
	})
}

// task is one that keeps nobody.
func task(id int64, tenant, prog, state int) api.Task {
	return api.Task{Id: id, Tenant: tenant, Prog: prog, Keeps: [4]int64{nobody, nobody, nobody, nobody}, State: state}
}

// worker is one that has nothing, but does something.
func worker(do int) api.Worker { return api.Worker{Do: do, Task: nobody, Kid: nobody} }

// middle is a world of the usual config in the middle of things: all parts of it have something, and two workers rest, the fourth one last.
func middle() api.World {
	w := api.World{Now: 40, Dice: api.Dice{L: []byte{1, 2, 3, 4, 5}, At: 3}}
	w.Ids = api.Places{Gen: []int64{0, 2, 0, 1, 3, 0, 7, 0, 0}, Live: []bool{true, true, true, true, false, true, true, true, true}}
	w.T = []api.Task{
		task(0, 0, 0, api.Ready), task(513, 1, 0, api.Running), task(2, 1, 3, api.Ready), task(259, 0, 2, api.Sleeping), {},
		task(5, 2, 1, api.Polling), task(1798, 0, 1, api.Ready), task(7, 1, 0, api.Running), task(8, 2, 0, api.Ready),
	}
	w.T[1].Unit, w.T[1].Ran, w.T[3].Pc, w.T[5].Pc, w.T[6].Pc, w.T[6].Unit, w.T[2].Keeps[1] = 4, 9, 1, 1, 3, 2, 77
	w.Mem = make(api.Mem, 25)
	w.Mem[0], w.Mem[1], w.Mem[7] = 4, 5, -3
	w.Lists = api.Chains{Next: []int{-1, -2, -2, -2, -2, -2, 0, -2, -1}, Head: []int{6, -1, 8}, Tail: []int{0, -1, 8}}
	w.Ten = []api.Tenant{{Weight: 2, Quota: 5, Live: 3, Tag: 900, Ran: 3}, {Weight: 5, Quota: 6, Live: 3, Tag: 100, Ran: 9}, {Weight: 1, Quota: 4, Live: 2, Tag: 500}}
	w.Heap = []api.Timer{{At: 43, Id: 259}, {At: 90, Id: 2000}, {At: 43, Id: 2001}}
	w.Fds = []api.Fd{{Who: nobody}, {Open: true, Who: 5}, {Open: true, Ready: true, Who: nobody}, {Open: true, Who: nobody}}
	w.Sems = []api.Sem{{Free: 2}, {Wait: []int64{31, 30}}}
	w.Joins = []api.Join{{On: 8, Who: 41}, {On: 41, Who: 42}}
	w.Idle = api.Idle{Is: []int{api.Awake, api.Awake, api.Parked, api.Announced, api.Awake}, Stack: []int{2, 3}}
	w.W = []api.Worker{worker(api.RunW), worker(api.PushW), worker(api.ParkedW), worker(api.LookW), worker(api.PopW)}
	w.W[0].Task, w.W[0].Left = 513, 3
	w.W[1].Kid, w.W[1].Hand = 2, api.Hand{Kind: api.PushH, Pc: 2, V: 2, T: 1, B: 1}
	w.W[3].Task, w.W[3].At, w.W[3].Left, w.W[3].Ask = 7, 2, 5, []int{1, 4}
	w.W[4].Hand, w.W[4].Ask, w.W[4].Spill = api.Hand{Kind: api.PopH, Pc: 5, T: 3, B: 3, V: 8}, []int{0, 0, 4}, 1
	w.Seen = []api.Event{{Kind: api.BornE, Id: 0}, {Kind: api.LeftE, Id: 99, A: 5}}
	return w
}

// with is a world that is changed.
func with(w api.World, change func(w *api.World)) api.World {
	change(&w)
	return w
}

// twin is a copy that shares nothing, part by part, in which each list without elements is nil.
func twin[T any](x T) T {
	return twinOf(reflect.ValueOf(x)).Interface().(T)
}

func twinOf(v reflect.Value) reflect.Value {
	to := reflect.New(v.Type()).Elem()
	switch v.Kind() {
	case reflect.Struct:
		for i := range v.NumField() {
			to.Field(i).Set(twinOf(v.Field(i)))
		}
	case reflect.Slice:
		if v.Len() > 0 {
			to.Set(reflect.MakeSlice(v.Type(), v.Len(), v.Len()))
		}
		if flat(v.Type().Elem()) {
			reflect.Copy(to, v)
			break
		}
		for i := range v.Len() {
			to.Index(i).Set(twinOf(v.Index(i)))
		}
	default:
		to.Set(v)
	}
	return to
}

// flat tells whether what is of a type has no lists in it.
func flat(t reflect.Type) bool {
	if t.Kind() == reflect.Struct {
		for i := range t.NumField() {
			if !flat(t.Field(i).Type) {
				return false
			}
		}
	}
	return t.Kind() != reflect.Slice
}

// equal tells whether two are the same in all parts.
func equal[T any](a, b T) bool { return reflect.DeepEqual(twin(a), twin(b)) }

// span is where the elements of a list stand, up to its capacity.
type span struct{ from, to uintptr }

func spansOf(v reflect.Value) []span {
	var l []span
	switch v.Kind() {
	case reflect.Struct:
		for i := range v.NumField() {
			l = append(l, spansOf(v.Field(i))...)
		}
	case reflect.Slice:
		if v.Cap() > 0 {
			l = append(l, span{v.Pointer(), v.Pointer() + uintptr(v.Cap())*v.Type().Elem().Size()})
		}
		for i := range v.Len() {
			if flat(v.Type().Elem()) {
				break
			}
			l = append(l, spansOf(v.Index(i))...)
		}
	}
	return l
}

// apart tells whether no two lists, of whichever of them, share anything.
func apart(all ...any) bool {
	var l []span
	for _, x := range all {
		l = append(l, spansOf(reflect.ValueOf(x))...)
	}
	slices.SortFunc(l, func(a, b span) int { return int(a.from) - int(b.from) })
	for i := 1; i < len(l); i++ {
		if l[i].from < l[i-1].to {
			return false
		}
	}
	return true
}

// tell holds Check's answer, and that of all others, against what is wanted: they ask it ahead of all else.
func tell(t *testing.T, name any, c api.Config, w api.World, may bool) {
	t.Helper()
	e := Check(c, w)
	if may && e != api.OK || !may && e != api.ErrArg {
		t.Fatalf("%v: error %d", name, e)
	}
	if may {
		if told, e := Wake(c, w); e != api.OK || Check(c, told) != api.OK {
			t.Fatalf("%v: Wake: error %d", name, e)
		}
		return
	}
	refuse(t, name, c, w)
}

// refuse holds that all calls refuse a world that may not be, whatever else they would refuse.
func refuse(t *testing.T, name any, c api.Config, w api.World) {
	t.Helper()
	blank := func(what string, told api.World, e api.Errno) {
		t.Helper()
		if e != api.ErrArg || !equal(told, api.World{}) {
			t.Fatalf("%v: %s: error %d, or it is not zero", name, what, e)
		}
	}
	for _, n := range []int{0, 1, 99, -1} {
		id, told, e := Spawn(c, w, n, n)
		blank("Spawn", told, e)
		if id != 0 {
			t.Fatalf("%v: Spawn: id %d", name, id)
		}
	}
	for _, id := range []int64{0, 2, 5, 8, 259, 999999, math.MaxInt64, -1} {
		told, e := Ready(c, w, id)
		blank("Ready", told, e)
		told, e = Put(c, w, id)
		blank("Put", told, e)
	}
	told, e := Wake(c, w)
	blank("Wake", told, e)
	for kind := -1; kind <= 8; kind++ {
		for _, a := range []int{0, 1, 255, 256} {
			told, e := Do(c, w, one(kind, a, 0))
			blank("Do", told, e)
		}
	}
}

// dealer tells numbers below another one, by a short rule.
func dealer(seed uint64) func(below int) int {
	return func(below int) int {
		seed = seed*6364136223846793005 + 1442695040888963407
		return int(seed >> 33 % uint64(below))
	}
}
