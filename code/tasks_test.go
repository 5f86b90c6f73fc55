package code

import (
	"math"
	"slices"
	"testing"

	"ravel/api"
)

// limit is how many tasks there may be, by the document.
const limit = int64(1) << 40

// loops are three programs: 0 spawns 1, and 1 and 2 one another.
func loops() [][]api.Instr {
	return [][]api.Instr{{spawns(1)}, {yields, spawns(2)}, {spawns(1)}}
}

// deep are so many programs, each of which spawns the next one as often as said, and the last one none.
func deep(many, often int) [][]api.Instr {
	l := manyProgs(many)
	for i := range many - 1 {
		l[i] = times(spawns(i+1), often)
	}
	return l
}

// counting are programs of which the first one comes to just n tasks: each spawns the next one 16 times, and the last one as often as is left over.
func counting(n int64) [][]api.Instr {
	var l [][]api.Instr
	var left []int
	for ; n > 16; n = (n - 1) / 16 {
		l = append(l, times(spawns(len(l)+1), 16))
		left = append(left, int((n-1)%16))
	}
	if n > 1 {
		l, left = append(l, nil), append(left, int(n-1))
	}
	for i, more := range left {
		l[i] = join(l[i], times(spawns(len(l)), more))
	}
	return append(l, []api.Instr{yields})
}

// reaches tells of each two programs whether the first one comes to the second one, in one step or more.
func reaches(l [][]api.Instr) [16][16]int {
	var to [16][16]int
	for i, p := range l {
		for _, k := range kids(p) {
			to[i][k] = 1
		}
	}
	for mid := range 16 {
		for i := range 16 {
			for k := range 16 {
				to[i][k] |= to[i][mid] & to[mid][k]
			}
		}
	}
	return to
}

// kids are the programs that one spawns, one by one.
func kids(p []api.Instr) []int {
	var l []int
	for _, x := range p {
		switch x.Op {
		case api.ExitI:
			return l
		case api.SpawnI:
			l = append(l, x.A)
		}
	}
	return l
}

// tasksOf is what Tasks ought to answer: round by round the tasks of the next depth are counted. They are floats, which don't go round, and tell all numbers up to the limit.
func tasksOf(l [][]api.Instr, i int) (int64, api.Errno) {
	to := reaches(l)
	for k := range l {
		if to[k][k] > 0 && (k == i || to[i][k] > 0) {
			return 0, api.ErrState
		}
	}
	var now [16]float64
	now[i] = 1
	all := 1.0
	for range 16 {
		var next [16]float64
		for k, p := range l {
			for _, kid := range kids(p) {
				next[kid] += now[k]
				all += now[k]
			}
		}
		now = next
	}
	if all > float64(limit) {
		return 0, api.ErrLarge
	}
	return int64(all), api.OK
}

// tell holds Tasks of all programs, and of some that there are not, against what is wanted.
func tell(t *testing.T, name any, l [][]api.Instr, want ...int64) {
	t.Helper()
	for i, n := range want {
		if got, e := Tasks(l, i); got != n || e != api.OK {
			t.Errorf("%v: of %d: %d, error %d, and not %d", name, i, got, e, n)
		}
	}
	for _, i := range []int{math.MinInt, -1, len(l), len(l) + 1, 16, math.MaxInt} {
		if got, e := Tasks(l, i); got != 0 || e != api.ErrArg {
			t.Errorf("%v: of %d: %d, error %d", name, i, got, e)
		}
	}
}

// P4.2

func TestTasks(t *testing.T) {
	tell(t, "the example", [][]api.Instr{{spawns(1), spawns(1)}, {yields}}, 3, 1)
	tell(t, "one that does nothing", [][]api.Instr{{exits}}, 1)
	tell(t, "none spawns", manyProgs(16), slices.Repeat([]int64{1}, 16)...)
	tell(t, "all slots", [][]api.Instr{{in(api.SpawnI, 1, 0), in(api.SpawnI, 1, 1), in(api.SpawnI, 1, 2), in(api.SpawnI, 1, 3), in(api.SpawnI, 1, 3)}, {yields}}, 6, 1)
	tell(t, "backwards", [][]api.Instr{{yields}, {spawns(0), spawns(0)}, {spawns(1), spawns(0)}}, 1, 3, 5)
	tell(t, "two ways to the same one", [][]api.Instr{{spawns(1), spawns(2)}, {spawns(3), spawns(3)}, {works(9), spawns(3)}, {yields}}, 6, 3, 2, 1)
	tell(t, "other kinds with the same numbers", [][]api.Instr{{in(api.IoI, 1, 0), in(api.JoinI, 1, 0), in(api.TakeI, 1, 0), in(api.GiveI, 1, 0), works(1)}, {yields}}, 1, 1)
	tell(t, "the longest one", deep(2, 32), 33, 1)
}

func TestTasksUpToTheExit(t *testing.T) {
	tell(t, "none behind it", [][]api.Instr{{spawns(1), exits, spawns(1)}, {yields}}, 2, 1)
	tell(t, "none at all", [][]api.Instr{{exits, spawns(1), spawns(1)}, {spawns(2)}, {yields}}, 1, 2, 1)
	tell(t, "the first of two", [][]api.Instr{{spawns(1), exits, spawns(1), exits}, {exits, exits}}, 2, 1)
	tell(t, "itself behind it", [][]api.Instr{{works(1), exits, spawns(0)}}, 1)
	tell(t, "one another behind it", [][]api.Instr{{spawns(1)}, {exits, spawns(0)}}, 2, 1)
	tell(t, "behind the exit of one who spawns", [][]api.Instr{{spawns(1), exits, spawns(0)}, {spawns(2), exits, spawns(0), spawns(1)}, {yields}}, 3, 2, 1)
}

func TestTasksOfNone(t *testing.T) {
	for i, l := range badLists() {
		for _, of := range []int{math.MinInt, -1, 0, 1, len(l) - 1, len(l), math.MaxInt} {
			if n, e := Tasks(l, of); n != 0 || e != api.ErrArg {
				t.Errorf("%d: of %d: %d, error %d", i, of, n, e)
			}
		}
	}
	// No such program comes ahead of those that spawn themselves.
	for _, of := range []int{-1, 3, 16} {
		if n, e := Tasks(loops(), of); n != 0 || e != api.ErrArg {
			t.Errorf("of %d: %d, error %d", of, n, e)
		}
	}
}

func TestTasksOfThemselves(t *testing.T) {
	for i, x := range []struct {
		l    [][]api.Instr
		want []api.Errno
	}{
		{[][]api.Instr{{spawns(0)}}, []api.Errno{api.ErrState}},
		{[][]api.Instr{{spawns(0), exits}, {spawns(0)}}, []api.Errno{api.ErrState, api.ErrState}},
		{loops(), []api.Errno{api.ErrState, api.ErrState, api.ErrState}},
		// One that does not come to those who do is told.
		{append(loops(), []api.Instr{yields}), []api.Errno{api.ErrState, api.ErrState, api.ErrState, api.OK}},
		{[][]api.Instr{{yields}, {spawns(1)}, {spawns(0)}}, []api.Errno{api.OK, api.ErrState, api.OK}},
		// The last spawn of all.
		{[][]api.Instr{join(times(spawns(1), 31), []api.Instr{spawns(0)}), {yields}}, []api.Errno{api.ErrState, api.OK}},
		// A round of just two behind others that were counted ahead.
		{[][]api.Instr{{spawns(1), spawns(2), spawns(3)}, {spawns(2)}, {yields}, {spawns(1), spawns(3)}}, []api.Errno{api.ErrState, api.OK, api.OK, api.ErrState}},
		// An exit ahead of it on one way, and none on the other one.
		{[][]api.Instr{{spawns(1), spawns(2)}, {exits, spawns(0)}, {spawns(0)}}, []api.Errno{api.ErrState, api.OK, api.ErrState}},
	} {
		for of, want := range x.want {
			n, e := Tasks(x.l, of)
			if e != want || e != api.OK && n != 0 {
				t.Errorf("%d: of %d: %d, error %d, and not %d", i, of, n, e, want)
			}
		}
	}
}

// TestTasksInARing goes round through all programs, from each of them.
func TestTasksInARing(t *testing.T) {
	for many := 1; many <= api.MaxProgs; many++ {
		l := manyProgs(many)
		for i := range l {
			l[i] = []api.Instr{works(1), spawns((i + 1) % many)}
		}
		for i := range l {
			if n, e := Tasks(l, i); n != 0 || e != api.ErrState {
				t.Errorf("%d in a ring: of %d: %d, error %d", many, i, n, e)
			}
		}
		// Opened at one place, each is one more than the next one.
		l[many-1] = []api.Instr{exits, spawns(0)}
		for i := range l {
			if n, e := Tasks(l, i); n != int64(many-i) || e != api.OK {
				t.Errorf("%d in a row: of %d: %d, error %d", many, i, n, e)
			}
		}
	}
}

func TestTasksGoOver(t *testing.T) {
	for _, n := range []int64{1, 2, 16, 17, 18, 33, 1000, 1 << 20, limit - 2, limit - 1, limit} {
		if got, e := Tasks(counting(n), 0); got != n || e != api.OK {
			t.Errorf("of %d: %d, error %d", n, got, e)
		}
	}
	for _, n := range []int64{limit + 1, limit + 2, limit + 16, limit + 17, 2 * limit, 1 << 50} {
		if got, e := Tasks(counting(n), 0); got != 0 || e != api.ErrLarge {
			t.Errorf("of %d: %d, error %d", n, got, e)
		}
	}
	// Those that one far above spawns are told themselves.
	l := deep(16, 32)
	for i, n := 15, int64(1); i >= 0; i-- {
		got, e := Tasks(l, i)
		switch {
		case n <= limit && (got != n || e != api.OK):
			t.Errorf("of %d: %d, error %d, and not %d", i, got, e, n)
		case n > limit && (got != 0 || e != api.ErrLarge):
			t.Errorf("of %d: %d, error %d", i, got, e)
		}
		n = min(1+32*n, 2*limit)
	}
}

// TestTasksGoRound is of programs that come to so many tasks that 64 bits tell 0, or 1, of them: 31 times the sum of 32's powers up to the 12th is 2^65 less 1, and 2^64 divides all that are above.
func TestTasksGoRound(t *testing.T) {
	for from := range 3 {
		l := deep(16, 32)
		for _, last := range [][]api.Instr{nil, {spawns(15)}, {exits}} {
			l[from] = append(times(spawns(from+1), 31), last...)
			for i := range from + 1 {
				if n, e := Tasks(l, i); n != 0 || e != api.ErrLarge {
					t.Errorf("%d and %v: of %d: %d, error %d", from, last, i, n, e)
				}
			}
		}
	}
}

// TestThemselvesAheadOfGoingOver spawns too many, and itself, in both orders: that it spawns itself comes first.
func TestThemselvesAheadOfGoingOver(t *testing.T) {
	for i, first := range [][]api.Instr{
		{spawns(1), spawns(0)},
		{spawns(0), spawns(1)},
		{spawns(1), spawns(1), yields, spawns(0)},
	} {
		l := deep(16, 32)
		l[0] = first
		if n, e := Tasks(l, 0); n != 0 || e != api.ErrState {
			t.Errorf("%d: %d, error %d", i, n, e)
		}
	}
	for last := 1; last < 15; last++ {
		l := deep(16, 32)
		l[last] = append(times(spawns(last+1), 31), spawns(last-1))
		for i := range l {
			n, e := Tasks(l, i)
			if (i <= last) != (e == api.ErrState) || e != api.OK && n != 0 {
				t.Errorf("%d spawns the one ahead of it: of %d: %d, error %d", last, i, n, e)
			}
		}
	}
}

// TestTasksOfMany holds Tasks of many programs against rounds of counting.
func TestTasksOfMany(t *testing.T) {
	next, met := dealer(1), map[api.Errno]int{}
	for k := range 4000 {
		l := mixed(next, k%2 == 0)
		was := copied(l)
		for i := range l {
			want, f := tasksOf(l, i)
			if n, e := Tasks(l, i); n != want || e != f {
				t.Fatalf("%v: of %d: %d, error %d, and not %d, error %d", l, i, n, e, want, f)
			}
			met[f]++
		}
		if unlike(l, was) {
			t.Fatalf("changed what was handed in: %v, and not %v", l, was)
		}
	}
	if met[api.OK] < 100 || met[api.ErrState] < 100 {
		t.Errorf("too few of a kind: %v", met)
	}
}

// P4.4

// TestWhoSpawnsIsMore asks of many programs that none comes to itself.
func TestWhoSpawnsIsMore(t *testing.T) {
	next := dealer(2)
	for range 2000 {
		l := mixed(next, true)
		for i, p := range l {
			n, e := Tasks(l, i)
			if e != api.OK {
				continue
			}
			spawned := int64(0)
			for _, k := range kids(p) {
				more, _ := Tasks(l, k)
				spawned += more
			}
			if n <= spawned || len(kids(p)) == 0 && n != 1 {
				t.Fatalf("%v: of %d: %d, and those that it spawns %d", l, i, n, spawned)
			}
		}
	}
}
