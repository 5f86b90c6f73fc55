package trace

import (
	"math"
	"slices"
	"testing"

	"ravel/api"
)

// The numbers of the document's words, which stand here as numbers of their own.
const (
	workOp   = 1
	spawnOp  = 2
	yieldOp  = 3
	sleepOp  = 4
	ioOp     = 5
	joinOp   = 6
	takeOp   = 7
	giveOp   = 8
	exitOp   = 9
	ready    = 1
	sleeping = 3
	polling  = 4
	joining  = 5
	taking   = 6
	over     = 7
	born     = 1
	did      = 2
	held     = 3
	freed    = 4
	ended    = 5
	left     = 6
	most     = 65536
)

func ev(kind int, id int64, a int) api.Event { return api.Event{Kind: kind, Id: id, A: a} }

func in(op, a, b int) api.Instr { return api.Instr{Op: op, A: a, B: b} }

func works(a int) api.Instr { return in(workOp, a, 0) }

// small are programs with instructions of all kinds, with exits at all places, and without.
func small() [][]api.Instr {
	return [][]api.Instr{
		{works(2), in(sleepOp, 5, 0), in(exitOp, 0, 0), in(yieldOp, 0, 0)},
		{in(joinOp, 1, 0)},
		{in(exitOp, 0, 0), works(1), in(exitOp, 0, 0)},
		{in(ioOp, 15, 0), in(takeOp, 7, 0), in(giveOp, 7, 0)},
		{in(spawnOp, 4, 3), in(yieldOp, 0, 0), works(1)},
		{in(sleepOp, 1000, 0), in(sleepOp, 1, 0), works(1), works(2), in(ioOp, 0, 0)},
	}
}

// unit is one of a program: where it is, and what its instruction is.
type unit struct{ pc, unit, op int }

// units are a program's units up to, and with, its first exit; behind the last instruction there is one.
func units(p []api.Instr) []unit {
	var l []unit
	for pc, x := range append(slices.Clone(p), in(exitOp, 0, 0)) {
		many := 1
		if x.Op == workOp {
			many = x.A
		}
		for n := range many {
			l = append(l, unit{pc, n, x.Op})
		}
		if x.Op == exitOp {
			break
		}
	}
	return l
}

// heldBy tells by the document's words what an instruction may let a task wait for.
func heldBy(op int) int {
	if op >= sleepOp && op <= takeOp {
		return op - 1
	}
	return 0
}

// own are a task's events among others.
func own(l []api.Event, id int64) []api.Event {
	return slices.DeleteFunc(slices.Clone(l), func(x api.Event) bool { return x.Id != id })
}

func many(l []api.Event, kind int) int {
	return len(slices.DeleteFunc(slices.Clone(l), func(x api.Event) bool { return x.Kind != kind }))
}

// may tells by the document's words whether an event may come behind all others of its task, each of which may.
func may(progs [][]api.Instr, l []api.Event, x api.Event) bool {
	if len(l) == 0 {
		return x.Kind == born && x.Id >= 0 && x.A >= 0 && x.A < len(progs)
	}
	last := l[len(l)-1]
	if last.Kind == ended || last.Kind == left {
		return false
	}
	todo := units(progs[l[0].A])[many(l, did):]
	switch x.Kind {
	case did:
		return last.Kind != held && len(todo) > 0 && todo[0].op == x.A
	case held:
		return last.Kind == did && x.A != 0 && heldBy(last.A) == x.A
	case freed:
		return last.Kind == held && x.A == 0
	case ended:
		return last.Kind == did && last.A == exitOp && x.A == 0
	}
	return x.Kind == left && x.A == 0
}

// first is the place of the first event that may not come.
func first(progs [][]api.Instr, l []api.Event) int {
	for i, x := range l {
		if !may(progs, own(l[:i], x.Id), x) {
			return i
		}
	}
	return len(l)
}

// behind is a task behind its own events.
func behind(progs [][]api.Instr, l []api.Event) api.Task {
	t := api.Task{Id: l[0].Id, Prog: l[0].A, Keeps: [4]int64{-1, -1, -1, -1}, State: ready}
	p := progs[t.Prog]
	n := many(l, did)
	t.Ran = int64(n)
	all := units(p)
	if n < len(all) {
		t.Pc, t.Unit = all[n].pc, all[n].unit
	} else {
		t.Pc = min(all[n-1].pc+1, len(p))
	}
	switch last := l[len(l)-1]; last.Kind {
	case held:
		t.State = last.A
	case ended, left:
		t.State = over
	}
	return t
}

// bornOnes are the ids of those that were born, in order.
func bornOnes(l []api.Event) []int64 {
	var ids []int64
	for _, x := range l {
		if x.Kind == born {
			ids = append(ids, x.Id)
		}
	}
	return ids
}

// holds holds both calls of events against the document's words.
func holds(t *testing.T, progs [][]api.Instr, l []api.Event) {
	t.Helper()
	at := first(progs, l)
	if got, e := Check(progs, l); got != at || e != api.OK {
		t.Fatalf("%v: %d, error %d, and not %d", l, got, e, at)
	}
	told, e := Tasks(progs, l)
	if at < len(l) {
		if told != nil || e != api.ErrForm {
			t.Fatalf("%v: %v, error %d", l, told, e)
		}
		return
	}
	var want []api.Task
	for _, id := range bornOnes(l) {
		want = append(want, behind(progs, own(l, id)))
	}
	if !slices.Equal(told, want) || e != api.OK {
		t.Fatalf("%v: %v, error %d, and not %v", l, told, e, want)
	}
}

// refused holds that both calls tell ErrArg, and nothing beside it.
func refused(t *testing.T, name string, progs [][]api.Instr, l []api.Event) {
	t.Helper()
	if at, e := Check(progs, l); at != 0 || e != api.ErrArg {
		t.Errorf("%s: %d, error %d", name, at, e)
	}
	if told, e := Tasks(progs, l); told != nil || e != api.ErrArg {
		t.Errorf("%s: %v, error %d", name, told, e)
	}
}

// whole are a task's events from its birth to its end, in which it waits wherever it may.
func whole(progs [][]api.Instr, id int64, prog int) []api.Event {
	l := []api.Event{ev(born, id, prog)}
	for _, u := range units(progs[prog]) {
		l = append(l, ev(did, id, u.op))
		if state := heldBy(u.op); state != 0 {
			l = append(l, ev(held, id, state), ev(freed, id, 0))
		}
	}
	return append(l, ev(ended, id, 0))
}

// oddNumbers are such as are one of an event's when they are cut to fewer bits, and others far away.
func oddNumbers() []int {
	return []int{-1, -2, 16, 17, 255, 256, 256 + 2, 1 << 16, 1<<32 + 1, 1<<32 + 5, math.MinInt, math.MinInt + 1, math.MinInt + 9, math.MaxInt}
}

// odds are events that may never come: no kind there is, no such number, or nobody's.
func odds(id int64) []api.Event {
	l := []api.Event{{}, {Id: id}, ev(7, id, 0), ev(8, id, 0)}
	for _, n := range oddNumbers() {
		l = append(l, ev(n, id, 0), ev(n, id, workOp))
		for kind := born; kind <= left; kind++ {
			l = append(l, ev(kind, id, n))
		}
	}
	for _, nobody := range []int64{-1, -2, math.MinInt64} {
		for kind := born; kind <= left; kind++ {
			l = append(l, ev(kind, nobody, 0), ev(kind, nobody, workOp), ev(kind, nobody, sleeping))
		}
	}
	return l
}

// P18.1

// TestWhole goes through all that may come of each program, event by event, and holds at each one all that could come there.
func TestWhole(t *testing.T) {
	for prog := range small() {
		l := whole(small(), 300, prog)
		for n := range len(l) + 1 {
			holds(t, small(), l[:n])
			if at, e := Check(small(), l[:n]); at != n || e != api.OK {
				t.Fatalf("%v: %d, error %d", l[:n], at, e)
			}
			for _, x := range odds(300) {
				if at, e := Check(small(), append(slices.Clone(l[:n]), x)); at != n || e != api.OK {
					t.Fatalf("%v behind %v: %d, error %d", x, l[:n], at, e)
				}
			}
			for kind := -1; kind <= 8; kind++ {
				for a := -1; a <= 10; a++ {
					holds(t, small(), append(slices.Clone(l[:n]), ev(kind, 300, a)))
					holds(t, small(), append(slices.Clone(l[:n]), ev(kind, 301, a)))
					holds(t, small(), slices.Concat(l[:n], []api.Event{ev(kind, 300, a)}, l[n:]))
				}
			}
		}
	}
}

// TestAllShortWays goes through all that may come of two tasks, up to some events, and holds behind each of them all that could come.
func TestAllShortWays(t *testing.T) {
	progs := [][]api.Instr{{works(2), in(ioOp, 0, 0)}, {in(takeOp, 0, 0), in(exitOp, 0, 0), works(1)}}
	ids := []int64{-1, 0, 7}
	var longer func(l []api.Event, more int)
	longer = func(l []api.Event, more int) {
		for _, id := range ids {
			for kind := range 8 {
				for a := -1; a <= 9; a++ {
					x := ev(kind, id, a)
					next := append(slices.Clone(l), x)
					holds(t, progs, next)
					if more > 1 && may(progs, own(l, id), x) {
						longer(next, more-1)
					}
				}
			}
		}
	}
	longer(nil, 6)
}

// TestAllOfOne goes as far as one task may go, whatever of all that may come comes.
func TestAllOfOne(t *testing.T) {
	for prog := range small() {
		var longer func(l []api.Event)
		longer = func(l []api.Event) {
			for kind := range 8 {
				for a := -1; a <= 9; a++ {
					x := ev(kind, 256, a)
					next := append(slices.Clone(l), x)
					holds(t, small(), next)
					if may(small(), l, x) {
						longer(next)
					}
				}
			}
		}
		longer([]api.Event{ev(born, 256, prog)})
	}
}

// TestOneByOne holds events that may not come against the chapter's lines, one by one.
func TestOneByOne(t *testing.T) {
	progs := [][]api.Instr{{works(1), in(sleepOp, 2, 0), in(ioOp, 3, 0), in(joinOp, 2, 0), in(takeOp, 5, 0), in(giveOp, 5, 0), in(spawnOp, 0, 0), in(yieldOp, 0, 0), in(exitOp, 0, 0)}}
	l := whole(progs, 0, 0)
	want := []api.Event{
		ev(1, 0, 0), ev(2, 0, 1), ev(2, 0, 4), ev(3, 0, 3), ev(4, 0, 0), ev(2, 0, 5), ev(3, 0, 4), ev(4, 0, 0), ev(2, 0, 6), ev(3, 0, 5), ev(4, 0, 0),
		ev(2, 0, 7), ev(3, 0, 6), ev(4, 0, 0), ev(2, 0, 8), ev(2, 0, 2), ev(2, 0, 3), ev(2, 0, 9), ev(5, 0, 0),
	}
	if !slices.Equal(l, want) {
		t.Fatalf("%v, and not %v", l, want)
	}
	if at, e := Check(progs, want); at != len(want) || e != api.OK {
		t.Fatalf("%d, error %d", at, e)
	}
	for _, x := range []struct {
		name string
		at   int
		x    api.Event
	}{
		{"of a program there is none of", 0, ev(born, 0, 1)},
		{"born of an id below 0", 0, ev(born, -1, 0)},
		{"born twice", 1, ev(born, 0, 0)},
		{"done ahead of its birth", 0, ev(did, 0, workOp)},
		{"another instruction is done", 1, ev(did, 0, sleepOp)},
		{"waits ahead of its first unit", 1, ev(held, 0, sleeping)},
		{"waits behind work", 2, ev(held, 0, sleeping)},
		{"waits for nothing behind work", 2, ev(held, 0, 0)},
		{"waits for something else", 3, ev(held, 0, polling)},
		{"waits for nothing", 3, ev(held, 0, 0)},
		{"does while it waits", 4, ev(did, 0, ioOp)},
		{"waits while it waits", 4, ev(held, 0, sleeping)},
		{"freed with a number", 4, ev(freed, 0, ready)},
		{"freed, and does not wait", 5, ev(freed, 0, 0)},
		{"waits once more", 5, ev(held, 0, sleeping)},
		{"waits behind a give", 15, ev(held, 0, taking)},
		{"done ahead of its exit", 17, ev(ended, 0, 0)},
		{"done twice over", 18, ev(did, 0, exitOp)},
		{"waits behind its exit", 18, ev(held, 0, 0)},
		{"over with a number", 18, ev(ended, 0, over)},
		{"left with a number", 17, ev(left, 0, over)},
		{"left behind its end", 19, ev(left, 0, 0)},
		{"over behind its end", 19, ev(ended, 0, 0)},
		{"born behind its end", 19, ev(born, 0, 0)},
		{"left, and nobody", 0, ev(left, 0, 0)},
	} {
		if at, e := Check(progs, append(slices.Clone(want[:x.at]), x.x)); at != x.at || e != api.OK {
			t.Errorf("%s: %d, error %d, and not %d", x.name, at, e, x.at)
		}
	}
}

// TestGoesOnInsteadOfWaiting holds that one that may wait need not.
func TestGoesOnInsteadOfWaiting(t *testing.T) {
	for prog := range small() {
		l := slices.DeleteFunc(whole(small(), 9, prog), func(x api.Event) bool { return x.Kind == held || x.Kind == freed })
		holds(t, small(), l)
		if at, e := Check(small(), l); at != len(l) || e != api.OK {
			t.Errorf("%v: %d, error %d", l, at, e)
		}
	}
}

// TestLeft holds that one that is not over is left wherever it is, and nothing comes behind that.
func TestLeft(t *testing.T) {
	for prog := range small() {
		l := whole(small(), 9, prog)
		for n := 1; n < len(l); n++ {
			end := append(slices.Clone(l[:n]), ev(left, 9, 0))
			holds(t, small(), end)
			if at, e := Check(small(), append(end, l[n:]...)); at != n+1 || e != api.OK {
				t.Errorf("%v, and then the others: %d, error %d", end, at, e)
			}
		}
	}
}

// TestTasksInOrder holds that tasks are told as they were born, whatever their ids are, and what came then.
func TestTasksInOrder(t *testing.T) {
	ids := []int64{math.MaxInt64, 5, 0, 256, 1 << 32, 1, 1 << 48, 1<<32 + 1, 3}
	var l []api.Event
	for i, id := range ids {
		l = append(l, ev(born, id, i%len(small())))
	}
	for i, id := range slices.Backward(ids) {
		l = append(l, whole(small(), id, i%len(small()))[1:]...)
	}
	for n := range len(l) + 1 {
		holds(t, small(), l[:n])
	}
	told, _ := Tasks(small(), l)
	for i, x := range told {
		if x.Id != ids[i] || x.State != over || x.Tenant != 0 || x.Keeps != [4]int64{-1, -1, -1, -1} {
			t.Errorf("%d: %v", i, x)
		}
	}
	if len(told) != len(ids) {
		t.Errorf("%d told", len(told))
	}
}

func TestNoEvents(t *testing.T) {
	for _, l := range [][]api.Event{nil, {}} {
		if at, e := Check(small(), l); at != 0 || e != api.OK {
			t.Errorf("%d, error %d", at, e)
		}
		if told, e := Tasks(small(), l); len(told) != 0 || e != api.OK {
			t.Errorf("%v, error %d", told, e)
		}
	}
}

// TestProgramsThereAre holds which programs one may be born of, of all numbers of programs there may be.
func TestProgramsThereAre(t *testing.T) {
	for n := 1; n <= 16; n++ {
		progs := slices.Repeat([][]api.Instr{{works(1)}}, n)
		for a := -2; a <= 40; a++ {
			holds(t, progs, []api.Event{ev(born, 0, a)})
			if at, e := Check(progs, []api.Event{ev(born, 0, a)}); (at == 1) != (a >= 0 && a < n) || e != api.OK {
				t.Errorf("%d of %d: %d, error %d", a, n, at, e)
			}
		}
		for _, a := range oddNumbers()[5:] {
			if at, e := Check(progs, []api.Event{ev(born, 0, a)}); at != 0 || e != api.OK {
				t.Errorf("%d of %d: %d, error %d", a, n, at, e)
			}
		}
	}
}

// badPrograms are programs that may not be.
func badPrograms() [][][]api.Instr {
	l := [][][]api.Instr{
		nil, {}, {nil}, {{}}, {{works(1)}, nil}, {nil, {works(1)}}, slices.Repeat([][]api.Instr{{works(1)}}, 17),
		{slices.Repeat([]api.Instr{works(1)}, 33)}, {{works(1)}, {in(spawnOp, 2, 0)}}, {{in(spawnOp, 1, 0)}}, {{in(exitOp, 0, 0), in(spawnOp, 1, 0)}},
	}
	for _, x := range []api.Instr{
		{}, in(10, 0, 0), in(-1, 0, 0), works(0), works(101), in(workOp, 1, 1), in(spawnOp, 0, 4), in(spawnOp, -1, 0), in(yieldOp, 1, 0), in(sleepOp, 0, 0),
		in(sleepOp, 1001, 0), in(ioOp, 16, 0), in(joinOp, 4, 0), in(takeOp, 8, 0), in(giveOp, -1, 0), in(exitOp, 0, 1), in(1<<32+workOp, 1, 0),
	} {
		l = append(l, [][]api.Instr{{works(1), x}}, [][]api.Instr{{works(1)}, {x}})
	}
	return l
}

func TestWrongPrograms(t *testing.T) {
	for _, progs := range badPrograms() {
		for _, l := range [][]api.Event{nil, {ev(born, 0, 0)}, {ev(born, 0, 5)}, {{}}, {ev(born, 0, 0), ev(did, 0, workOp)}, make([]api.Event, most+1)} {
			refused(t, "programs", progs, l)
		}
	}
}

// TestMost holds as many events as there may be, and some more, whatever they are.
func TestMost(t *testing.T) {
	l := make([]api.Event, 0, most+2)
	for id := range int64(most) {
		l = append(l, ev(born, id*256, int(id)%len(small())))
	}
	if at, e := Check(small(), l); at != most || e != api.OK {
		t.Errorf("all of them: %d, error %d", at, e)
	}
	told, e := Tasks(small(), l)
	if len(told) != most || e != api.OK {
		t.Errorf("all of them: %d tasks, error %d", len(told), e)
	}
	for i, x := range told {
		if x != behind(small(), l[i:i+1]) {
			t.Fatalf("%d: %v", i, x)
		}
	}
	for _, at := range []int{0, 1, most / 2, most - 1} {
		was := l[at]
		l[at] = ev(held, 1, sleeping)
		if got, e := Check(small(), l); got != at || e != api.OK {
			t.Errorf("a wrong one at %d: %d, error %d", at, got, e)
		}
		if told, e := Tasks(small(), l); told != nil || e != api.ErrForm {
			t.Errorf("a wrong one at %d: %d told, error %d", at, len(told), e)
		}
		refused(t, "one wrong, and one more", small(), append(slices.Clone(l), ev(born, 1, 0)))
		l[at] = was
	}
	refused(t, "one more", small(), append(l, ev(born, 1, 0)))
	refused(t, "two more", small(), append(l, ev(born, 1, 0), ev(born, 2, 0)))
	refused(t, "one more of zeros", small(), make([]api.Event, most+1))
}

// TestLongest does the longest program there may be, for as many tasks as events may tell of.
func TestLongest(t *testing.T) {
	progs := [][]api.Instr{slices.Repeat([]api.Instr{works(100)}, 32)}
	var l []api.Event
	for id := range int64(20) {
		l = append(l, whole(progs, id, 0)...)
	}
	if at, e := Check(progs, l); at != 20*3203 || e != api.OK {
		t.Fatalf("%d, error %d", at, e)
	}
	told, e := Tasks(progs, l)
	if len(told) != 20 || e != api.OK {
		t.Fatalf("%d told, error %d", len(told), e)
	}
	for id, x := range told {
		if x != (api.Task{Id: int64(id), Pc: 32, Keeps: [4]int64{-1, -1, -1, -1}, State: over, Ran: 3201}) {
			t.Errorf("%v", x)
		}
	}
	for _, at := range []int{1, 100, 101, 3200, 3201, 3202, 3203, 20*3203 - 1} {
		bad := slices.Clone(l)
		bad[at] = ev(did, bad[at].Id, yieldOp)
		if got, e := Check(progs, bad); got != at || e != api.OK {
			t.Errorf("a wrong one at %d: %d, error %d", at, got, e)
		}
	}
}

// P18.2

func TestOf(t *testing.T) {
	var l []api.Event
	ids := []int64{0, 1, 256, 1 << 32, 1<<32 + 1, -1, math.MinInt64, math.MaxInt64}
	for n := range 200 {
		l = append(l, ev(n%9-1, ids[n*n%len(ids)], n))
	}
	for _, id := range append(ids, 2, -2, 255, 1<<48) {
		if got := Of(l, id); !slices.Equal(got, own(l, id)) {
			t.Errorf("of %d: %v", id, got)
		}
		if got := Of(nil, id); len(got) != 0 {
			t.Errorf("of %d: %v of none", id, got)
		}
	}
	if got := Of([]api.Event{ev(1, 3, 0), ev(2, 4, 1), ev(2, 3, 9), ev(6, 3, 0), ev(2, 3, 9)}, 3); !slices.Equal(got, []api.Event{ev(1, 3, 0), ev(2, 3, 9), ev(6, 3, 0), ev(2, 3, 9)}) {
		t.Errorf("of 3: %v", got)
	}
}

func TestCount(t *testing.T) {
	var l []api.Event
	for kind := range 9 {
		for n := range kind * kind {
			l = append(l, ev(kind, int64(n), n))
		}
	}
	for kind := range 9 {
		if n := Count(l, kind); n != kind*kind {
			t.Errorf("%d of kind %d", n, kind)
		}
		if n := Count(nil, kind); n != 0 {
			t.Errorf("%d of kind %d of none", n, kind)
		}
	}
	for _, kind := range append(oddNumbers(), 9, 10) {
		if n := Count(l, kind); n != 0 {
			t.Errorf("%d of kind %d", n, kind)
		}
		if n := Count([]api.Event{ev(kind, 0, 0), ev(did, 0, 0), ev(kind, 1, 1)}, kind); n != 2 {
			t.Errorf("%d of kind %d, and not 2", n, kind)
		}
	}
}

// TestBeyondMost holds that Of and Count tell of more events than are gone through, too.
func TestBeyondMost(t *testing.T) {
	l := slices.Repeat([]api.Event{ev(did, 1, 1), ev(left, 2, 0)}, most)
	if got := Of(l, 2); len(got) != most || got[0] != ev(left, 2, 0) || got[most-1] != got[0] {
		t.Errorf("%d of 2", len(got))
	}
	if n := Count(l, did); n != most {
		t.Errorf("%d", n)
	}
}

func TestHeld(t *testing.T) {
	for op, want := range []int{0, 0, 0, 0, 3, 4, 5, 6, 0, 0, 0, 0} {
		if got := Held(op); got != want {
			t.Errorf("%d: %d, and not %d", op, got, want)
		}
	}
	for _, op := range append(oddNumbers(), 256+sleepOp, 1<<32+ioOp, math.MinInt+takeOp, -sleepOp, -takeOp) {
		if got := Held(op); got != 0 {
			t.Errorf("%d: %d", op, got)
		}
	}
}

// R2

// TestWhoseIsWhat holds that programs and events are as they were, and that what is written into them, or into an answer, plays no part then.
func TestWhoseIsWhat(t *testing.T) {
	progs := small()
	room := slices.Concat(whole(progs, 3, 0), whole(progs, 4, 3), []api.Event{ev(born, 5, 1)}) // what stands behind the events is not their own
	was := slices.Clone(room)
	l := room[: len(room)-1 : len(room)]
	told, _ := Tasks(progs, l)
	one := Of(l, 4)
	at, _ := Check(progs, l)
	if n := Count(l, born); n != 2 || at != len(l) || !slices.Equal(room, was) || !slices.EqualFunc(progs, small(), slices.Equal[[]api.Instr]) {
		t.Fatalf("%v, %v", room, progs)
	}
	want, events := slices.Clone(told), slices.Clone(one)
	clear(room)
	for _, p := range progs {
		clear(p)
	}
	if !slices.Equal(told, want) || !slices.Equal(one, events) {
		t.Errorf("%v, %v, and not %v, %v", told, one, want, events)
	}
	copy(room, was)
	again, _ := Tasks(small(), l)
	other := Of(l, 4)
	clear(told)
	clear(one[:cap(one)])
	if !slices.Equal(again, want) || !slices.Equal(other, events) || !slices.Equal(room, was) {
		t.Errorf("%v, %v, %v", again, other, room)
	}
}
