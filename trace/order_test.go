package trace

import (
	"slices"
	"testing"

	"ravel/api"
)

// P18.3

// TestExample is the document's example.
func TestExample(t *testing.T) {
	progs := [][]api.Instr{{works(1)}}
	l := []api.Event{ev(born, 0, 0), ev(did, 0, workOp), ev(did, 0, exitOp), ev(ended, 0, 0)}
	if at, e := Check(progs, l); at != 4 || e != api.OK {
		t.Errorf("%d, error %d", at, e)
	}
	told, e := Tasks(progs, l)
	if len(told) != 1 || e != api.OK || told[0] != (api.Task{Pc: 1, Keeps: [4]int64{-1, -1, -1, -1}, State: over, Ran: 2}) {
		t.Errorf("%v, error %d", told, e)
	}
}

// draws are numbers below others, one behind the other.
func draws(seed uint64) func(below int) int {
	draw := seed
	return func(below int) int {
		draw = draw*6364136223846793005 + 1442695040888963407
		return int(draw>>33) % below
	}
}

// drawn are programs that are drawn.
func drawn(next func(below int) int) [][]api.Instr {
	progs := make([][]api.Instr, 1+next(16))
	for i := range progs {
		p := make([]api.Instr, 1+next(12))
		for j := range p {
			p[j] = []api.Instr{
				works(1 + next(6)), in(spawnOp, next(len(progs)), next(4)), in(yieldOp, 0, 0), in(sleepOp, 1+next(1000), 0), in(ioOp, next(16), 0),
				in(joinOp, next(4), 0), in(takeOp, next(8), 0), in(giveOp, next(8), 0), works(1 + next(3)), in(exitOp, 0, 0),
			}[next(10)]
		}
		progs[i] = p
	}
	return progs
}

// one are the events of a task that are drawn of all that may come, up to its end, or ahead of it.
func one(progs [][]api.Instr, id int64, next func(below int) int) []api.Event {
	l := []api.Event{ev(born, id, next(len(progs)))}
	for next(40) > 0 {
		var can []api.Event
		for kind := range 7 {
			for a := range 10 {
				if x := ev(kind, id, a); may(progs, l, x) && (kind != left || next(20) == 0) {
					can = append(can, x)
				}
			}
		}
		if len(can) == 0 {
			break
		}
		l = append(l, can[next(len(can))])
	}
	return l
}

// mixed are the events of several tasks, one by one of whomever is drawn.
func mixed(each [][]api.Event, next func(below int) int) []api.Event {
	var l []api.Event
	each = slices.Clone(each)
	for len(each) > 0 {
		i := next(len(each))
		l = append(l, each[i][0])
		each[i] = each[i][1:]
		if len(each[i]) == 0 {
			each = slices.Delete(each, i, i+1)
		}
	}
	return l
}

// several are the events of up to so many tasks, each one's alone.
func several(progs [][]api.Instr, n int, next func(below int) int) [][]api.Event {
	var each [][]api.Event
	for i := range 1 + next(n) {
		each = append(each, one(progs, int64(i*257+next(257)), next))
	}
	return each
}

// TestLongRun mixes tasks' events in very many ways, each of which may come, and holds that so may its beginnings, and that what is told of each task hangs on its own alone.
func TestLongRun(t *testing.T) {
	for _, seed := range []uint64{1, 5, 300} {
		next := draws(seed)
		for range 60 {
			progs := drawn(next)
			each := several(progs, 12, next)
			for range 3 {
				l := mixed(each, next)
				if at, e := Check(progs, l); at != len(l) || e != api.OK {
					t.Fatalf("%v of %v: %d, error %d", l, progs, at, e)
				}
				holds(t, progs, l)
				n := next(len(l))
				holds(t, progs, l[:n])
				if at, e := Check(progs, l[:n]); at != n || e != api.OK {
					t.Fatalf("the beginning %v of %v: %d, error %d", l[:n], progs, at, e)
				}
				oneAlone(t, progs, l)
			}
		}
	}
}

// oneAlone holds that each task is as it is without all others, and has done as many units as were seen of it, none of them twice.
func oneAlone(t *testing.T, progs [][]api.Instr, l []api.Event) {
	t.Helper()
	told, _ := Tasks(progs, l)
	for _, x := range told {
		mine := Of(l, x.Id)
		alone, e := Tasks(progs, mine)
		if len(alone) != 1 || alone[0] != x || e != api.OK {
			t.Fatalf("%v, and alone %v, error %d", x, alone, e)
		}
		var done []int
		for _, y := range mine {
			if y.Kind == did {
				done = append(done, y.A)
			}
		}
		all := units(progs[x.Prog])
		if Count(mine, did) != len(done) || x.Ran != int64(len(done)) || len(done) > len(all) {
			t.Fatalf("%v of %v: %d units", x, mine, len(done))
		}
		for i, op := range done {
			if all[i].op != op {
				t.Fatalf("%v: unit %d is of a %d", mine, i, op)
			}
		}
	}
}

// TestChangePlaces holds that two of two tasks, beside one another, may change places, and what is told is the same of each.
func TestChangePlaces(t *testing.T) {
	next := draws(9)
	for range 60 {
		progs := drawn(next)
		l := mixed(several(progs, 4, next), next)
		told, _ := Tasks(progs, l)
		for i := range len(l) - 1 {
			if l[i].Id == l[i+1].Id {
				continue
			}
			m := slices.Clone(l)
			m[i], m[i+1] = m[i+1], m[i]
			if at, e := Check(progs, m); at != len(m) || e != api.OK {
				t.Fatalf("%v, changed at %d: %d, error %d", l, i, at, e)
			}
			other, e := Tasks(progs, m)
			if e != api.OK || len(other) != len(told) {
				t.Fatalf("%v, changed at %d: %v, error %d", l, i, other, e)
			}
			for _, x := range told {
				if !slices.Contains(other, x) {
					t.Fatalf("%v, changed at %d: %v, and not %v", l, i, other, told)
				}
			}
			if (l[i].Kind != born || l[i+1].Kind != born) && !slices.Equal(other, told) {
				t.Fatalf("%v, changed at %d: %v, and not %v", l, i, other, told)
			}
		}
	}
}

// TestFaults changes, leaves out, doubles, and puts in events, and holds that the first one that may not come is the first one of all that may not come of each task alone.
func TestFaults(t *testing.T) {
	next := draws(77)
	for range 800 {
		progs := drawn(next)
		l := mixed(several(progs, 5, next), next)
		for range 1 + next(3) {
			i := next(len(l))
			x := ev(next(8), l[next(len(l))].Id, next(10))
			switch next(5) {
			case 0:
				l[i] = x
			case 1:
				l = slices.Insert(l, i, l[i])
			case 2:
				l = slices.Insert(l, i, x)
			case 3:
				l[i].A = x.A
			case 4:
				if len(l) > 1 {
					l = slices.Delete(l, i, i+1)
				}
			}
		}
		holds(t, progs, l)
		least := len(l)
		for _, id := range everyone(l) {
			mine := Of(l, id)
			at, e := Check(progs, mine)
			if e != api.OK {
				t.Fatalf("%v: error %d", mine, e)
			}
			if at < len(mine) {
				least = min(least, place(l, id, at))
			}
		}
		if at, e := Check(progs, l); at != least || e != api.OK {
			t.Fatalf("%v: %d, error %d, and not %d", l, at, e, least)
		}
	}
}

// everyone are the ids of all of whom there is an event, each once.
func everyone(l []api.Event) []int64 {
	var ids []int64
	for _, x := range l {
		ids = append(ids, x.Id)
	}
	slices.Sort(ids)
	return slices.Compact(ids)
}

// place is where the event of a task, so many of whose come ahead, stands among all.
func place(l []api.Event, id int64, ahead int) int {
	for i, x := range l {
		if x.Id == id {
			if ahead == 0 {
				return i
			}
			ahead--
		}
	}
	return len(l)
}

// TestNothingBehindItsEnd puts all that there could be behind a task's end, wherever that is.
func TestNothingBehindItsEnd(t *testing.T) {
	next := draws(4)
	for range 40 {
		progs := drawn(next)
		l := one(progs, 300, next)
		if last := l[len(l)-1].Kind; last != ended && last != left {
			l = append(l, ev(left, 300, 0))
		}
		other := one(progs, 301, next)
		for kind := -1; kind <= 8; kind++ {
			for a := -1; a <= 10; a++ {
				m := slices.Concat(l, other, []api.Event{ev(kind, 300, a)})
				if at, e := Check(progs, m); at != len(m)-1 || e != api.OK {
					t.Fatalf("%v: %d, error %d", m, at, e)
				}
			}
		}
	}
}

// TestNoUnitTwice does each unit of each program twice, wherever the first one is another instruction's.
func TestNoUnitTwice(t *testing.T) {
	for prog, p := range small() {
		all := units(p)
		for n := range all {
			l := []api.Event{ev(born, 0, prog)}
			for _, u := range all[:n+1] {
				l = append(l, ev(did, 0, u.op))
			}
			again := append(slices.Clone(l), ev(did, 0, all[n].op))
			at, _ := Check(small(), again)
			if is := n+1 < len(all) && all[n+1].op == all[n].op; (at == len(again)) != is {
				t.Errorf("unit %d of %v again: %d of %d", n, p, at, len(again))
			}
		}
	}
}
