package entry

import (
	"math"
	"slices"
	"testing"

	"ravel/api"
)

// dealer tells numbers below another one, by a short rule.
func dealer(seed uint64) func(below int) int {
	return func(below int) int {
		seed = seed*6364136223846793005 + 1442695040888963407
		return int(seed >> 33 % uint64(below))
	}
}

// steps are entries of workers, one behind the other.
func steps(who ...int) []api.Entry {
	var l []api.Entry
	for _, w := range who {
		l = append(l, one(api.StepS, w, 0))
	}
	return l
}

// among puts entries of other kinds between, ahead of and behind others.
func among(l []api.Entry) []api.Entry {
	told := []api.Entry{one(api.SpawnS, 0, 1), one(api.TickS, 9, 0)}
	for i, x := range l {
		told = append(told, x, one(1+i%7, i%2, 0))
	}
	return append(told, one(9, 200, 0), one(-1, 1, 0))
}

// comes looks at every window, one by one, as the document says it.
func comes(who []int, workers, window int) bool {
	for _, w := range who {
		if w < 0 || w >= workers {
			return false
		}
	}
	for at := 0; at+window <= len(who); at++ {
		for w := range workers {
			if !slices.Contains(who[at:at+window], w) {
				return false
			}
		}
	}
	return true
}

// fair holds Fair against what is wanted.
func fair(t *testing.T, l []api.Entry, workers, window int, want bool) {
	t.Helper()
	if is, e := Fair(l, workers, window); is != want || e != api.OK {
		t.Fatalf("%v: of %d in windows of %d: %t, error %d", l, workers, window, is, e)
	}
}

// all calls f with all lists of so many numbers from least to most.
func all(n, least, most int, f func(l []int)) {
	l := make([]int, 0, n)
	var more func()
	more = func() {
		if len(l) == n {
			f(l)
			return
		}
		for x := least; x <= most; x++ {
			l = append(l, x)
			more()
			l = l[:len(l)-1]
		}
	}
	more()
}

// P19.3

func TestTheExample(t *testing.T) {
	fair(t, steps(0, 1, 0, 1), 2, 2, true)
	fair(t, steps(0, 1, 0, 1), 2, 3, true)
	fair(t, steps(0, 1, 0, 1), 2, 1, false)
	fair(t, steps(0, 1, 0, 1), 1, 2, false)
	fair(t, steps(0, 1, 0, 1), 3, 2, false)
	fair(t, steps(0, 1, 0, 1), 3, 4, false)
	fair(t, steps(0, 1, 0, 1), 3, 5, true)
}

// TestAllShortScripts goes through all of up to seven steps, in all windows.
func TestAllShortScripts(t *testing.T) {
	for workers := 1; workers <= 3; workers++ {
		for n := range 8 {
			all(n, 0, workers-1, func(who []int) {
				l := steps(who...)
				for window := 1; window <= n+2; window++ {
					fair(t, l, workers, window, comes(who, workers, window))
				}
			})
		}
	}
}

// TestStrangers goes through scripts of workers that there are not, in windows of all lengths.
func TestStrangers(t *testing.T) {
	for workers := 1; workers <= 3; workers++ {
		for n := range 6 {
			all(n, -1, workers+1, func(who []int) {
				l := steps(who...)
				for _, window := range []int{1, 2, 3, n, n + 1, math.MaxInt} {
					if window > 0 {
						fair(t, l, workers, window, window > n && comes(who, workers, n+1) || window <= n && comes(who, workers, window))
					}
				}
			})
		}
	}
	for _, far := range []int{math.MinInt, math.MinInt32, -256, -64, -1, 64, 65, 255, 256, 1 << 32, 1<<32 + 1, math.MaxInt} {
		for workers := 1; workers <= 64; workers++ {
			fair(t, steps(far), workers, 9, false)
			fair(t, steps(0, far), workers, math.MaxInt, false)
		}
	}
	for workers := 1; workers <= 64; workers++ {
		fair(t, steps(workers-1), workers, 2, true)
		fair(t, steps(workers), workers, 2, false)
	}
}

// TestOnlyStepsCount puts other kinds between.
func TestOnlyStepsCount(t *testing.T) {
	for workers := 1; workers <= 3; workers++ {
		for n := range 6 {
			all(n, 0, workers, func(who []int) {
				l := among(steps(who...))
				for window := 1; window <= n+2; window++ {
					fair(t, l, workers, window, comes(who, workers, window))
				}
			})
		}
	}
	for window := 1; window <= 9; window++ {
		fair(t, nil, 5, window, true)
		fair(t, among(nil), 5, window, true)
	}
	// A step's second number is no matter, though it may not be.
	fair(t, []api.Entry{one(0, 0, 7), one(0, 1, -7)}, 2, 2, true)
}

// TestRounds lets all workers come by turns: any window of so many has all of them.
func TestRounds(t *testing.T) {
	for workers := 1; workers <= mostWorkers; workers++ {
		var who []int
		for range 4 {
			for w := range workers {
				who = append(who, w)
			}
		}
		for window := 1; window <= len(who)+1; window++ {
			fair(t, steps(who...), workers, window, window >= workers)
		}
		// One that comes back and forth is away for twice as long.
		slices.Reverse(who[workers : 2*workers])
		for window := 1; window <= len(who)+1; window++ {
			fair(t, steps(who...), workers, window, comes(who, workers, window))
		}
	}
}

func TestWrongWindows(t *testing.T) {
	for _, l := range [][]api.Entry{nil, steps(0), steps(0, 1), steps(-1), steps(99), {one(9, 9, 9)}} {
		for _, workers := range []int{math.MinInt, math.MinInt + 1, -64, -1, 0, 1, 2, 63, 64, 65, 66, 128, 256, 1 << 32, 1<<32 + 1, math.MaxInt} {
			for _, window := range []int{math.MinInt, math.MinInt + 1, -2, -1, 0, 1, 2, 1 << 32, math.MaxInt} {
				may := workers >= 1 && workers <= mostWorkers && window >= 1
				is, e := Fair(l, workers, window)
				if may && e != api.OK || !may && (is || e != api.ErrArg) {
					t.Errorf("%v: of %d in windows of %d: %t, error %d", l, workers, window, is, e)
				}
			}
		}
	}
}

// P19.4

// TestWrittenIsRead writes long scripts of all kinds, and changes a byte of the text: it is read as what stands there, or not at all.
func TestWrittenIsRead(t *testing.T) {
	next := dealer(19)
	kinds := goodEntries()
	for range 300 {
		l := make([]api.Entry, next(400))
		for i := range l {
			l[i] = kinds[next(len(kinds))]
		}
		writes(t, len(l), l)
		if len(l) == 0 {
			continue
		}
		b := text(l...)
		at := next(len(b))
		b[at] = byte(next(10))
		x := one(int(b[at/3*3]), int(b[at/3*3+1]), int(b[at/3*3+2]))
		if !mayBe(x) {
			unread(t, x, b, api.ErrForm)
			continue
		}
		l[at/3] = x
		writes(t, x, l)
	}
}

// TestFairInLongerWindows holds long scripts against every window, looked at one by one, up to the first in which they are fair, and that they are so in all longer ones.
func TestFairInLongerWindows(t *testing.T) {
	next := dealer(4)
	for run := range 200 {
		workers := 1 + next(6)
		who := make([]int, next(120))
		for i := range who {
			who[i] = next(workers)
			if run%2 == 0 && next(4) > 0 { // near to a round
				who[i] = i % workers
			}
		}
		l := among(steps(who...))
		was := false
		for window := 1; window <= len(who)+2; window++ {
			want := comes(who, workers, window)
			if was && !want {
				t.Fatalf("%v: of %d: not in a window of %d", who, workers, window)
			}
			fair(t, l, workers, window, want)
			was = want
		}
		fair(t, l, workers, math.MaxInt, true)
	}
}

// TestTheLongestScript is fair in a window that just fits all of it but one step, or just all.
func TestTheLongestScript(t *testing.T) {
	l := slices.Repeat(steps(0), mostEntries)
	l[mostEntries-1].A = 1
	fair(t, l, 2, mostEntries-1, false)
	fair(t, l, 2, mostEntries, true)
	fair(t, l, 2, mostEntries+1, true)
	l[0].A = 1
	fair(t, l, 2, mostEntries-2, false)
	fair(t, l, 2, mostEntries-1, true)
	l = slices.Repeat(steps(0, 1), 1<<20)
	fair(t, l, 2, 2, true)
	fair(t, l, 2, 1, false)
}
