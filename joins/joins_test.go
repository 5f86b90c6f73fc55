package joins

import (
	"math"
	"slices"
	"testing"

	"ravel/api"
)

// of are joins told by pairs: on whom, and who.
func of(pairs ...int64) []api.Join {
	var l []api.Join
	for p := range slices.Chunk(pairs, 2) {
		l = append(l, api.Join{On: p[0], Who: p[1]})
	}
	return l
}

// row are so many joins, each of the next one for the one ahead, from an id on.
func row(n int, from int64) []api.Join {
	var l []api.Join
	for i := range n {
		l = append(l, api.Join{On: from + int64(i), Who: from + int64(i) + 1})
	}
	return l
}

// star are so many joins for one, of ids behind it.
func star(n int, on int64) []api.Join {
	var l []api.Join
	for i := range n {
		l = append(l, api.Join{On: on, Who: on + int64(i) + 1})
	}
	return l
}

// circle are so many joins that go round, from an id on.
func circle(n int, from int64) []api.Join {
	l := row(n, from)
	l[n-1].Who = from
	for i := range l[:n-1] {
		l[i].Who = from + int64(i) + 1
	}
	return l
}

// tree are so many joins, each of one for the one that has half its number.
func tree(n int) []api.Join {
	var l []api.Join
	for i := range n {
		l = append(l, api.Join{On: int64(i / 2), Who: int64(i + 1)})
	}
	return l
}

// turned are joins the other way round.
func turned(l []api.Join) []api.Join {
	l = slices.Clone(l)
	slices.Reverse(l)
	return l
}

// mixed are joins in an order that goes neither on nor back: of each two one, on, and then the others, back.
func mixed(l []api.Join) []api.Join {
	var on, back []api.Join
	for i, j := range l {
		if i%2 == 0 {
			on = append(on, j)
		} else {
			back = append(back, j)
		}
	}
	return slices.Concat(on, turned(back))
}

// good are joins that may be, at all edges.
func good() [][]api.Join {
	l := [][]api.Join{
		nil, {}, of(0, 1), of(1, 0), of(5, 6), of(0, math.MaxInt64), of(math.MaxInt64, 0), of(math.MaxInt64, math.MaxInt64-1), of(1<<48, 7),
		of(5, 6, 6, 7), of(6, 7, 5, 6), of(5, 6, 5, 7), of(5, 7, 6, 8), of(9, 3, 3, 9000, 9, 0, 0, 4, 4, 8, 2, 1),
		of(5, 6, 6, 7, 5, 8, 8, 9), of(0, 2, 1, 3, 2, 4, 3, 5, 4, 6, 5, 7), of(7, 5, 5, 3, 3, 1, 8, 6, 6, 4, 4, 2),
		slices.Concat(row(128, 0), row(128, 1000)), slices.Concat(star(128, 0), row(128, 128)), slices.Concat(row(100, 500), of(500, 1, 600, 2)),
		row(256, math.MaxInt64-256), star(256, math.MaxInt64-256), tree(255), tree(256), turned(tree(256)), mixed(tree(256)),
	}
	for _, n := range []int{1, 2, 3, 255, 256} {
		for _, m := range [][]api.Join{row(n, 0), row(n, 7), star(n, 0), star(n, 7)} {
			l = append(l, m, turned(m), mixed(m))
		}
	}
	return l
}

// bad are joins that may not be.
func bad() [][]api.Join {
	l := [][]api.Join{
		// One Who is there twice.
		of(1, 2, 3, 2), of(1, 2, 1, 2), of(0, 5, 1, 6, 2, 5), of(0, 5, 5, 6, 6, 7, 0, 6), of(1, 0, 2, 0), of(1, math.MaxInt64, 2, math.MaxInt64), slices.Concat(row(255, 0), of(900, 255)), slices.Concat(row(255, 0), of(900, 1)), slices.Concat(star(255, 0), of(0, 100)), slices.Concat(star(255, 0), of(900, 255)),
		// Two of one Who, one of whom goes round, and the other one does not.
		of(1, 2, 2, 1, 3, 2), of(3, 2, 1, 2, 2, 1), of(2, 1, 3, 2, 1, 2),
		// Too many.
		row(257, 0), row(258, 0), star(257, 0), tree(257), row(100000, 0), star(100000, 5), make([]api.Join, 257), slices.Concat(row(256, 0), of(900, 901)), slices.Concat(row(256, 0), of(0, 0)), slices.Concat(row(256, 0), of(-1, 900)),
		// The zero value of a join waits for itself.
		make([]api.Join, 1), make([]api.Join, 256),
	}
	for _, n := range []int{1, 2, 3, 4, 16, 255, 256} {
		for _, m := range [][]api.Join{circle(n, 0), circle(n, 7), circle(n, math.MaxInt64-255)} {
			l = append(l, m, turned(m), mixed(m))
		}
	}
	for _, n := range []int{1, 2, 3, 100} { // a circle, to which others come, and beside which others are
		c := circle(n, 50)
		for _, m := range [][]api.Join{of(50, 7), of(50, 7, 7, 8, 8, 9), of(50, 1, 50, 2), of(3, 4), row(50, 1000), of(50, 8, 8, 9, 3, 4)} {
			l = append(l, slices.Concat(c, m), slices.Concat(m, c), slices.Concat(turned(m), turned(c)), mixed(slices.Concat(m, c)))
		}
	}
	for _, id := range []int64{-1, -2, -256, math.MinInt64 + 1, math.MinInt64} { // alone, ahead, between, and behind
		for _, j := range [][]api.Join{of(id, 900), of(900, id), of(id, id), of(id, 0), of(0, id), of(id, -7)} {
			l = append(l, j, slices.Concat(j, of(5, 6)), slices.Concat(of(5, 6), j, of(6, 7)), slices.Concat(of(5, 6), j), slices.Concat(row(255, 1), j), slices.Concat(j, star(255, 1)))
		}
	}
	return l
}

// onOf is for whom one waits, -1, if it waits for none.
func onOf(l []api.Join, who int64) int64 {
	for _, j := range l {
		if j.Who == who {
			return j.On
		}
	}
	return -1
}

// wayOf are those for whom one waits, one after another; it goes no further than there are joins.
func wayOf(l []api.Join, who int64) []int64 { return wayBy(l, numbers(l), who) }

// numbers are of each Who the number of its join.
func numbers(l []api.Join) map[int64]int {
	of := map[int64]int{}
	for i, j := range l {
		of[j.Who] = i
	}
	return of
}

func wayBy(l []api.Join, of map[int64]int, who int64) []int64 {
	var way []int64
	for i, is := of[who]; is && len(way) <= len(l); i, is = of[l[i].On] {
		way = append(way, l[i].On)
	}
	return way
}

// mayBe tells by the document's words, one after another, whether joins may be.
func mayBe(l []api.Join) bool {
	if len(l) > 256 {
		return false
	}
	of := numbers(l)
	if len(of) < len(l) {
		return false
	}
	for _, j := range l {
		if j.On < 0 || j.Who < 0 {
			return false
		}
	}
	for _, j := range l {
		if slices.Contains(wayBy(l, of, j.Who), j.Who) {
			return false
		}
	}
	return true
}

// like tells whether two are the same, part by part.
func like(a, b []api.Join) bool {
	if len(a) != len(b) {
		return false
	}
	for i := range a {
		if a[i].On != b[i].On || a[i].Who != b[i].Who {
			return false
		}
	}
	return true
}

// some are ids that are there in joins, and some others.
func some(l []api.Join) []int64 {
	ids := []int64{0, 1, 5, 7, 8, 255, 256, 257, 7777, math.MaxInt64 - 256, math.MaxInt64 - 1, math.MaxInt64}
	for i, j := range l {
		if i < 3 || i > len(l)-3 || i%100 == 50 {
			ids = append(ids, j.On, j.Who)
		}
	}
	return ids
}

// holds holds that joins are as is wanted, without an error, and may be.
func holds(t *testing.T, name string, l, want []api.Join, e api.Errno) {
	t.Helper()
	if !like(l, want) || e != api.OK || !mayBe(l) {
		t.Errorf("%s: %v, error %d, and not %v", name, l, e, want)
	}
}

// zero holds that there is an error, and all else is zero beside it.
func zero(t *testing.T, name string, l []api.Join, e, want api.Errno) {
	t.Helper()
	if len(l) != 0 || e != want {
		t.Errorf("%s: %v, error %d, and not error %d", name, l, e, want)
	}
}

// P11.1

func TestCheck(t *testing.T) {
	for i, l := range good() {
		if e := Check(l); e != api.OK || !mayBe(l) {
			t.Errorf("%d: error %d: %v", i, e, l)
		}
	}
	for i, l := range bad() {
		if e := Check(l); e != api.ErrArg || mayBe(l) {
			t.Errorf("%d: error %d: %v", i, e, l[:min(len(l), 300)])
		}
	}
}

// TestCheckAll holds of all lists of up to three joins that just those may be that the document says.
func TestCheckAll(t *testing.T) {
	ids := []int64{-1, 0, 1, 2, math.MaxInt64}
	count := [4]int{}
	var from func(l []api.Join)
	from = func(l []api.Join) {
		e := Check(l)
		if e == api.OK {
			count[len(l)]++
		}
		if (e == api.OK) != mayBe(l) || e != api.OK && e != api.ErrArg {
			t.Fatalf("%v: error %d", l, e)
		}
		if len(l) == len(count)-1 {
			return
		}
		for _, on := range ids {
			for _, who := range ids {
				from(append(slices.Clone(l), api.Join{On: on, Who: who}))
			}
		}
	}
	from(nil)
	// Of four ids there are 12, 48 and 64 forests with roots of one, two and three joins, each in all orders.
	if count != [4]int{1, 12, 48 * 2, 64 * 6} {
		t.Errorf("%v may be", count)
	}
}

// TestCheckHowMany asks of each number of joins.
func TestCheckHowMany(t *testing.T) {
	for n := range 300 {
		for _, l := range [][]api.Join{row(n, 3), star(n, 3), tree(n), turned(row(n, 3))} {
			if e := Check(l); (e == api.OK) != (n <= 256) || e != api.OK && e != api.ErrArg {
				t.Errorf("%d joins: error %d", n, e)
			}
		}
	}
}

// TestCheckEachTwo lets each two of all places be of one Who.
func TestCheckEachTwo(t *testing.T) {
	l := star(256, 1)
	for i := range 256 {
		for j := range i + 1 {
			was := [2]int64{l[i].Who, l[j].Who}
			l[i].Who, l[j].Who = 7777, 7777
			if e := Check(l); (e == api.OK) != (i == j) {
				t.Fatalf("%d and %d: error %d", i, j, e)
			}
			l[j].Who = was[1]
			l[i].Who = was[0]
		}
	}
}

// TestCheckEachOn lets the first one of a row wait for each one: behind it all go round. So does a row of each length.
func TestCheckEachOn(t *testing.T) {
	for _, order := range []func([]api.Join) []api.Join{slices.Clone[[]api.Join], turned, mixed} {
		for n := range 256 {
			l := order(row(n, 10))
			for _, on := range []int64{0, 9, 10, 11, 10 + int64(n)/2, 9 + int64(n), 10 + int64(n), 11 + int64(n)} {
				rounds := on >= 10 && on <= 10+int64(n)
				for _, closed := range [][]api.Join{append(slices.Clone(l), api.Join{On: on, Who: 10}), append(of(on, 10), l...)} {
					if e := Check(closed); (e == api.ErrArg) != rounds || e != api.OK && e != api.ErrArg {
						t.Fatalf("a row of %d, for %d: error %d", n, on, e)
					}
				}
			}
		}
	}
}

func TestSame(t *testing.T) {
	for i, x := range []struct {
		a, b []api.Join
		is   bool
	}{
		{nil, []api.Join{}, true},
		{nil, make([]api.Join, 1), false},
		{of(5, 6), of(5, 6), true},
		{of(5, 6), of(6, 5), false},
		{of(5, 6), of(5, 7), false},
		{of(5, 6), of(4, 6), false},
		{of(5, 6), of(5, 6, 6, 7), false},
		{of(6, 7), of(5, 6, 6, 7), false},
		{of(5, 6, 6, 7), of(6, 7, 5, 6), false},
		{of(5, 6, 6, 7), of(5, 6, 6, 7), true},
		{row(256, 4), row(256, 4), true},
		{row(256, 4), row(255, 4), false},
		{row(256, 4), row(256, 5), false},
		{row(256, 4), turned(row(256, 4)), false},
		// Those that may not be are the same, or not, as well.
		{of(5, 5), of(5, 5), true},
		{of(5, 5), of(6, 6), false},
		{of(-1, 5), of(-1, 5), true},
		{of(-1, 5), of(-2, 5), false},
		{of(5, -1), of(5, -2), false},
		{of(1, 2, 1, 2), of(1, 2, 1, 2), true},
		{of(1, 2, 1, 2), of(1, 2), false},
		{circle(3, 0), circle(3, 0), true},
		{circle(3, 0), turned(circle(3, 0)), false},
		{row(257, 0), row(257, 0), true},
		{row(257, 0), row(258, 0), false},
	} {
		if Same(x.a, x.b) != x.is || Same(x.b, x.a) != x.is {
			t.Errorf("%d: %v, %v: not %t", i, x.a, x.b, x.is)
		}
	}
	for i, l := range slices.Concat(good(), bad()) {
		if !Same(l, slices.Clone(l)) {
			t.Errorf("%d: not the same", i)
		}
		for at, j := range l[:min(len(l), 300)] {
			for _, x := range []api.Join{{On: j.On ^ 1, Who: j.Who}, {On: j.On, Who: j.Who ^ 1}} {
				other := slices.Clone(l)
				other[at] = x
				if Same(l, other) || Same(other, l) {
					t.Errorf("%d: the same, but for place %d", i, at)
				}
			}
		}
	}
}

func TestFor(t *testing.T) {
	for i, l := range good() {
		for _, who := range append(some(l), -1, -2, math.MinInt64) {
			if way, e := For(l, who); !slices.Equal(way, wayOf(l, who)) || e != api.OK {
				t.Errorf("%d: %d waits for %v, error %d", i, who, way, e)
			}
		}
	}
	l := of(8, 9, 6, 7, 5, 8, 5, 6, 1, 0)
	for _, x := range []struct {
		who int64
		way []int64
	}{{9, []int64{8, 5}}, {7, []int64{6, 5}}, {8, []int64{5}}, {6, []int64{5}}, {0, []int64{1}}, {5, nil}, {1, nil}, {4, nil}, {-1, nil}, {math.MinInt64, nil}, {math.MaxInt64, nil}} {
		if way, e := For(l, x.who); !slices.Equal(way, x.way) || e != api.OK {
			t.Errorf("%d waits for %v, error %d, and not %v", x.who, way, e, x.way)
		}
	}
	for i, l := range bad() {
		for _, who := range []int64{math.MinInt64, -1, 0, 2, 5, 7, 50, 7777} {
			if way, e := For(l, who); len(way) != 0 || e != api.ErrArg {
				t.Errorf("%d: %d waits for %v, error %d, of bad joins", i, who, way, e)
			}
		}
	}
}

// TestForRow asks each one of a row for whom it waits: all ahead of it, the next one first.
func TestForRow(t *testing.T) {
	for _, l := range [][]api.Join{row(256, 3), turned(row(256, 3)), mixed(row(256, 3))} {
		var want []int64
		for who := int64(3); who <= 259; who++ {
			if way, e := For(l, who); !slices.Equal(way, want) || e != api.OK {
				t.Fatalf("%d waits for %v, error %d, and not %v", who, way, e, want)
			}
			want = append([]int64{who}, want...)
		}
	}
}

// P11.2

// TestWait asks by the document's words, one after another, of each two ids what is to come.
func TestWait(t *testing.T) {
	met := map[api.Errno]int{}
	for _, l := range good() {
		for _, on := range some(l) {
			for _, who := range some(l) {
				next, e := Wait(l, on, who)
				met[e]++
				switch {
				case onOf(l, who) >= 0:
					zero(t, "wait, waits", next, e, api.ErrThere)
				case on == who || slices.Contains(wayOf(l, on), who):
					zero(t, "wait, round", next, e, api.ErrState)
				case len(l) == 256:
					zero(t, "wait, full", next, e, api.ErrFull)
				default:
					holds(t, "wait", next, append(slices.Clone(l), api.Join{On: on, Who: who}), e)
				}
			}
		}
	}
	for _, e := range []api.Errno{api.OK, api.ErrThere, api.ErrState, api.ErrFull} {
		if met[e] == 0 {
			t.Errorf("error %d did not come", e)
		}
	}
}

func TestWaitBelowZero(t *testing.T) {
	for _, l := range good() {
		for _, id := range []int64{-1, -2, -256, math.MinInt64 + 1, math.MinInt64} {
			for _, other := range append(some(l), -1, id) {
				next, e := Wait(l, id, other)
				zero(t, "wait, on below 0", next, e, api.ErrArg)
				next, e = Wait(l, other, id)
				zero(t, "wait, who below 0", next, e, api.ErrArg)
			}
		}
	}
}

// TestWhichErrorOfWait lets several errors apply at once.
func TestWhichErrorOfWait(t *testing.T) {
	l := of(5, 6, 6, 7, 5, 8)
	full := row(256, 10)
	for _, x := range []struct {
		l       []api.Join
		on, who int64
		e       api.Errno
	}{
		// Below 0, and it waits, and goes round, and there are too many.
		{l, -1, 6, api.ErrArg}, {l, -1, -1, api.ErrArg}, {full, -1, 11, api.ErrArg}, {full, -1, 10, api.ErrArg}, {full, -1, 5, api.ErrArg}, {full, 5, -1, api.ErrArg}, {full, -7, -7, api.ErrArg},
		// It waits, and goes round, and there are too many.
		{l, 6, 6, api.ErrThere}, {l, 7, 6, api.ErrThere}, {l, 5, 6, api.ErrThere}, {l, 5, 7, api.ErrThere}, {l, 9, 8, api.ErrThere}, {full, 11, 11, api.ErrThere}, {full, 200, 11, api.ErrThere}, {full, 5, 266, api.ErrThere}, {full, 266, 266, api.ErrThere},
		// It goes round, and there are too many.
		{full, 10, 10, api.ErrState}, {full, 11, 10, api.ErrState}, {full, 266, 10, api.ErrState}, {full, 5, 5, api.ErrState}, {full, 267, 267, api.ErrState}, {nil, 0, 0, api.ErrState}, {nil, math.MaxInt64, math.MaxInt64, api.ErrState},
		{full, 10, 9, api.ErrFull}, {full, 266, 267, api.ErrFull}, {full, 9, 10, api.ErrFull}, {full, 0, math.MaxInt64, api.ErrFull}, {full, 1, 0, api.ErrFull},
		// Joins that may not be.
		{row(257, 10), 10, 9, api.ErrArg}, {row(257, 10), 10, 11, api.ErrArg}, {row(257, 10), 10, 10, api.ErrArg}, {of(5, 5), 5, 5, api.ErrArg}, {of(5, 5), 6, 5, api.ErrArg}, {of(5, 6, 6, 5), 5, 7, api.ErrArg}, {of(-1, 6), 5, 6, api.ErrArg}, {of(1, 2, 3, 2), 4, 2, api.ErrArg},
	} {
		next, e := Wait(x.l, x.on, x.who)
		zero(t, "wait", next, e, x.e)
	}
}

// TestWaitFills lets one after another wait for the one ahead, and for one, till there are as many as may be.
func TestWaitFills(t *testing.T) {
	for _, want := range [][]api.Join{row(256, 10), star(256, 10), tree(256), turned(row(256, 10)), mixed(tree(256))} {
		var l []api.Join
		for i, j := range want {
			next, e := Wait(l, j.On, j.Who)
			holds(t, "wait", next, want[:i+1], e)
			l = next
		}
		next, e := Wait(l, 10, 7777)
		zero(t, "wait, full", next, e, api.ErrFull)
		l, e = Drop(l, want[100].Who)
		holds(t, "drop", l, slices.Delete(slices.Clone(want), 100, 101), e)
		l, e = Wait(l, 10, 7777)
		holds(t, "wait, one is gone", l, append(slices.Delete(slices.Clone(want), 100, 101), api.Join{On: 10, Who: 7777}), e)
	}
}

// TestWaitRow lets the first one of a row wait for each one of it, and each one for the first one.
func TestWaitRow(t *testing.T) {
	for _, l := range [][]api.Join{row(255, 3), turned(row(255, 3)), mixed(row(255, 3))} {
		for id := int64(3); id <= 258; id++ {
			next, e := Wait(l, id, 3)
			zero(t, "wait, round", next, e, api.ErrState)
			if id > 3 {
				next, e = Wait(l, 3, id)
				zero(t, "wait, waits", next, e, api.ErrThere)
			}
		}
		for _, id := range []int64{0, 2, 259, math.MaxInt64} {
			next, e := Wait(l, id, 3)
			holds(t, "wait, behind another one", next, append(slices.Clone(l), api.Join{On: id, Who: 3}), e)
		}
	}
}

// P11.3

// done tells by the document's words who waits for one itself, and which joins are left.
func done(l []api.Join, on int64) (who []int64, left []api.Join) {
	for _, j := range l {
		if j.On == on {
			who = append(who, j.Who)
		}
	}
	return who, slices.DeleteFunc(slices.Clone(l), func(j api.Join) bool { return slices.Contains(who, j.Who) })
}

func TestDone(t *testing.T) {
	for _, l := range good() {
		for _, on := range append(some(l), -1, -2, math.MinInt64) { // for one below 0 nobody waits
			who, left, e := Done(l, on)
			ids, want := done(l, on)
			holds(t, "done", left, want, e)
			if !slices.Equal(who, ids) {
				t.Errorf("%d is done in %v: %v go on", on, l, who)
			}
		}
	}
	l := of(5, 9, 9, 2, 4, 1, 5, 3, 3, 7, 5, 6)
	for _, x := range []struct {
		on   int64
		who  []int64
		left []api.Join
	}{
		{5, []int64{9, 3, 6}, of(9, 2, 4, 1, 3, 7)},
		{9, []int64{2}, of(5, 9, 4, 1, 5, 3, 3, 7, 5, 6)},
		{4, []int64{1}, of(5, 9, 9, 2, 5, 3, 3, 7, 5, 6)},
		{3, []int64{7}, of(5, 9, 9, 2, 4, 1, 5, 3, 5, 6)},
		{7, nil, l}, {6, nil, l}, {2, nil, l}, {0, nil, l}, {-1, nil, l}, {math.MaxInt64, nil, l},
	} {
		who, left, e := Done(l, x.on)
		holds(t, "done", left, x.left, e)
		if !slices.Equal(who, x.who) {
			t.Errorf("%d is done: %v go on, and not %v", x.on, who, x.who)
		}
	}
}

func TestDrop(t *testing.T) {
	for _, l := range good() {
		for i, j := range l {
			if i < 3 || i > len(l)-3 || i%30 == 17 {
				left, e := Drop(l, j.Who)
				holds(t, "drop", left, slices.Concat(l[:i], l[i+1:]), e)
			}
		}
		for _, id := range append(some(l), -1, -2, math.MinInt64) { // for one below 0 there is no join
			if onOf(l, id) < 0 {
				left, e := Drop(l, id)
				zero(t, "drop, does not wait", left, e, api.ErrNone)
			}
		}
	}
	l := of(5, 6, 6, 7, 5, 8) // those who wait for it wait on
	for _, x := range []struct {
		who  int64
		left []api.Join
	}{{6, of(6, 7, 5, 8)}, {7, of(5, 6, 5, 8)}, {8, of(5, 6, 6, 7)}} {
		left, e := Drop(l, x.who)
		holds(t, "drop", left, x.left, e)
	}
	left, e := Drop(l, 5) // somebody waits for it, but it waits for none
	zero(t, "drop", left, e, api.ErrNone)
}

// TestChangesOfBadJoins holds that ErrArg is ahead of all that may be wrong besides.
func TestChangesOfBadJoins(t *testing.T) {
	for _, l := range bad() {
		for _, id := range []int64{math.MinInt64, -1, 0, 2, 5, 6, 50, 300, math.MaxInt64} {
			for _, on := range []int64{-1, 0, 5, 7777, id} {
				next, e := Wait(l, on, id)
				zero(t, "wait", next, e, api.ErrArg)
			}
			who, left, e := Done(l, id)
			zero(t, "done", left, e, api.ErrArg)
			if len(who) != 0 {
				t.Errorf("%v go on beside an error", who)
			}
			left, e = Drop(l, id)
			zero(t, "drop", left, e, api.ErrArg)
		}
	}
}

// R2

// scribble writes over all that a list has, behind its length as well.
func scribble[T any](l []T, x T) {
	l = l[:cap(l)]
	for i := range l {
		l[i] = x
	}
}

var scrap = api.Join{On: -77, Who: -77}

// TestWhoseIsWhat holds that no call changes what it was handed, and that what it answers is the caller's own.
func TestWhoseIsWhat(t *testing.T) {
	for name, call := range map[string]func([]api.Join) ([]api.Join, api.Errno){
		"wait":         func(l []api.Join) ([]api.Join, api.Errno) { return Wait(l, 5, 9) },
		"done":         func(l []api.Join) ([]api.Join, api.Errno) { _, n, e := Done(l, 5); return n, e },
		"done between": func(l []api.Join) ([]api.Join, api.Errno) { _, n, e := Done(l, 6); return n, e },
		"done none":    func(l []api.Join) ([]api.Join, api.Errno) { _, n, e := Done(l, 1); return n, e },
		"drop ahead":   func(l []api.Join) ([]api.Join, api.Errno) { return Drop(l, 6) },
		"drop between": func(l []api.Join) ([]api.Join, api.Errno) { return Drop(l, 7) },
		"drop behind":  func(l []api.Join) ([]api.Join, api.Errno) { return Drop(l, 8) },
	} {
		all := of(5, 6, 6, 7, 5, 8, 11, 12, 13, 14)
		told, e := call(all[:3])
		if e != api.OK || !like(all, of(5, 6, 6, 7, 5, 8, 11, 12, 13, 14)) {
			t.Errorf("%s: error %d, and %v behind it", name, e, all)
		}
		again, _ := call(all[:3])
		was := slices.Clone(told)
		scribble(all, scrap)
		if !like(told, was) {
			t.Errorf("%s: hangs on what it was handed: %v", name, told)
		}
		scribble(told, scrap)
		if !like(again, was) {
			t.Errorf("%s: hangs on what was answered ahead: %v", name, again)
		}
	}
	room := of(1, 2, 3, 4)
	if l, e := Wait(room[:0], 5, 6); !like(l, of(5, 6)) || e != api.OK || !like(room, of(1, 2, 3, 4)) {
		t.Errorf("wait of none, where there is room: %v, error %d, and %v behind it", l, e, room)
	}
}

// TestIdsAreNew holds that who goes on, and for whom one waits, are the caller's own as well.
func TestIdsAreNew(t *testing.T) {
	l := of(5, 6, 6, 7, 5, 8)
	who, left, _ := Done(l, 5)
	scribble(who, -77)
	if !like(l, of(5, 6, 6, 7, 5, 8)) || !like(left, of(6, 7)) {
		t.Errorf("done: %v left of %v", left, l)
	}
	way, _ := For(l, 7)
	scribble(way, -77)
	again, _ := For(l, 7)
	who, _, _ = Done(l, 5)
	if !like(l, of(5, 6, 6, 7, 5, 8)) || !slices.Equal(again, []int64{6, 5}) || !slices.Equal(who, []int64{6, 8}) {
		t.Errorf("for: %v, done: %v, of %v", again, who, l)
	}
	scribble(l, scrap)
	if !slices.Equal(again, []int64{6, 5}) || !slices.Equal(who, []int64{6, 8}) {
		t.Errorf("for: %v, done: %v, hang on what was handed in", again, who)
	}
}
