package chain

import (
	"math"
	"slices"
	"testing"

	"ravel/api"
)

// noPlaces are numbers that are no node's, and no list's, of whatever chains there are.
var noPlaces = []int{math.MinInt, -257, api.Out, api.Last, api.MaxNodes, math.MaxInt}

// of are chains of so many nodes, with such lists.
func of(nodes int, lists ...[]int) api.Chains {
	c := api.Chains{Next: slices.Repeat([]int{-2}, nodes)}
	for _, l := range lists {
		if len(l) == 0 {
			c.Head, c.Tail = append(c.Head, -1), append(c.Tail, -1)
			continue
		}
		c.Head, c.Tail = append(c.Head, l[0]), append(c.Tail, l[len(l)-1])
		for i, node := range l[1:] {
			c.Next[l[i]] = node
		}
		c.Next[l[len(l)-1]] = -1
	}
	return c
}

func list(l ...int) []int { return l }

// upTo are the numbers from 0 on, and downTo are they in the other order.
func upTo(n int) []int {
	var l []int
	for i := range n {
		l = append(l, i)
	}
	return l
}

func downTo(n int) []int {
	l := upTo(n)
	slices.Reverse(l)
	return l
}

// empty are so many lists that have none.
func empty(n int) [][]int { return make([][]int, n) }

// full has all nodes there may be in all lists there may be, turn by turn.
func full() [][]int {
	l := empty(api.MaxLists)
	for node := range api.MaxNodes {
		l[node*7%api.MaxLists] = append(l[node*7%api.MaxLists], node)
	}
	return l
}

// plan is what chains are to be: how many nodes, and what is in each list.
type plan struct {
	nodes int
	lists [][]int
}

// good are chains that may be, at all edges.
func good() []plan {
	return []plan{
		{0, empty(1)}, {0, empty(256)}, {1, empty(1)}, {1, [][]int{{0}}}, {1, [][]int{nil, {0}}},
		{2, [][]int{{0}}}, {2, [][]int{{1}}}, {2, [][]int{{0, 1}}}, {2, [][]int{{1, 0}}}, {2, [][]int{{0}, {1}}}, {2, [][]int{{1}, nil, {0}}},
		{3, [][]int{{0, 1, 2}}}, {3, [][]int{{1, 2, 0}, nil}}, {3, [][]int{{2}, {0, 1}}}, {3, [][]int{nil, {2, 0}}},
		{5, [][]int{{3, 1, 0}, {4}}}, {6, [][]int{{5, 0}, nil, {4, 2, 1}, nil}},
		{1024, empty(1)}, {1024, empty(256)}, {1024, [][]int{upTo(1024)}}, {1024, [][]int{nil, downTo(1024)}}, {1024, [][]int{{1023}, {0}}},
		{1024, full()}, {255, slices.Concat(empty(255), [][]int{downTo(255)})},
	}
}

// bad are chains that may not be.
func bad() []api.Chains {
	many := of(1025, upTo(1025))
	return []api.Chains{
		{}, {Next: list(), Head: list(), Tail: list()}, {Next: list(-2)}, {Next: list(-1)},
		{Head: list(-1)}, {Tail: list(-1)}, {Head: list(-1), Tail: list(-1, -1)}, {Head: list(-1, -1), Tail: list(-1)},
		{Next: list(-1), Head: list(0), Tail: list(0, -1)}, {Next: list(-1), Head: list(0, -1), Tail: list(0)}, {Next: list(-1), Tail: list(0)}, {Next: list(-1), Head: list(0)},
		// Too many nodes, or lists.
		of(1025, nil), many, of(0, empty(257)...), of(1024, empty(257)...), of(1030, empty(260)...),
		// A Head, a Tail, a Next that is no node's.
		{Head: list(0), Tail: list(0)}, {Head: list(-1), Tail: list(0)}, {Head: list(0), Tail: list(-1)}, {Head: list(-2), Tail: list(-2)}, {Head: list(-2), Tail: list(-1)}, {Head: list(-1), Tail: list(-2)},
		{Next: list(-1), Head: list(1), Tail: list(1)}, {Next: list(-2), Head: list(1), Tail: list(-1)}, {Next: list(-1), Head: list(-2), Tail: list(0)}, {Next: list(-1), Head: list(0), Tail: list(-2)},
		{Next: list(1), Head: list(0), Tail: list(0)}, {Next: list(5), Head: list(0), Tail: list(5)}, {Next: list(-3), Head: list(0), Tail: list(0)},
		{Next: list(-2), Head: list(math.MaxInt), Tail: list(math.MaxInt)}, {Next: list(math.MaxInt), Head: list(0), Tail: list(0)},
		{Next: list(-2), Head: list(math.MinInt), Tail: list(math.MinInt)}, {Next: list(math.MinInt), Head: list(0), Tail: list(0)},
		{Next: list(-2), Head: list(math.MinInt), Tail: list(-1)}, {Next: list(-2, math.MaxInt), Head: list(-1), Tail: list(-1)},
		// A list that has a first one and no last one, or no first one and a last one.
		{Next: list(-1), Head: list(0), Tail: list(-1)}, {Next: list(-1), Head: list(-1), Tail: list(0)}, {Next: list(-2), Head: list(-1), Tail: list(0)},
		// The last one's Next is not Last, or one with Last is not the last one.
		{Next: list(-2), Head: list(0), Tail: list(0)}, {Next: list(1, -2), Head: list(0), Tail: list(1)}, {Next: list(1, -1), Head: list(0), Tail: list(0)}, {Next: list(-1, -1), Head: list(0), Tail: list(1)}, {Next: list(-1, -2), Head: list(0), Tail: list(1)},
		// A node is met twice by one list.
		{Next: list(0), Head: list(0), Tail: list(0)}, {Next: list(1, 0), Head: list(0), Tail: list(1)}, {Next: list(1, 2, 1), Head: list(0), Tail: list(2)}, {Next: list(1, 1), Head: list(0), Tail: list(1)},
		// A node is met by two lists.
		{Next: list(-1), Head: list(0, 0), Tail: list(0, 0)}, {Next: list(1, -1), Head: list(0, 1), Tail: list(1, 1)}, {Next: list(2, 2, -1), Head: list(0, 1), Tail: list(2, 2)}, {Next: list(1, -1), Head: list(1, 0), Tail: list(1, 1)},
		// A node is in no list, and its Next is not Out.
		{Next: list(-1), Head: list(-1), Tail: list(-1)}, {Next: list(0), Head: list(-1), Tail: list(-1)}, {Next: list(1, -2), Head: list(-1), Tail: list(-1)}, {Next: list(-3), Head: list(-1), Tail: list(-1)}, {Next: list(0, -1), Head: list(1), Tail: list(1)}, {Next: list(1, -1), Head: list(1), Tail: list(1)},
		{Next: list(1, 0, -1), Head: list(2), Tail: list(2)}, {Next: make([]int, 1024), Head: list(-1), Tail: list(-1)},
	}
}

func copied(c api.Chains) api.Chains {
	return api.Chains{Next: slices.Clone(c.Next), Head: slices.Clone(c.Head), Tail: slices.Clone(c.Tail)}
}

func equal(a, b api.Chains) bool {
	return slices.Equal(a.Next, b.Next) && slices.Equal(a.Head, b.Head) && slices.Equal(a.Tail, b.Tail)
}

// zero holds that there is an error, and all else is zero beside it.
func zero(t *testing.T, name string, n int, c api.Chains, e, want api.Errno) {
	t.Helper()
	if n != 0 || len(c.Next) != 0 || len(c.Head) != 0 || len(c.Tail) != 0 || e != want {
		t.Errorf("%s: %d, %v, error %d, and not error %d", name, n, c, e, want)
	}
}

// is holds that chains are those that are wanted, and may be.
func is(t *testing.T, name string, c, want api.Chains, e api.Errno) {
	t.Helper()
	if !equal(c, want) || e != api.OK || Check(c) != api.OK {
		t.Errorf("%s: %v, error %d, and not %v", name, c, e, want)
	}
}

// ownerOf is the list of a plan that has a node (-1: none).
func (p plan) ownerOf(node int) int {
	return slices.IndexFunc(p.lists, func(l []int) bool { return slices.Contains(l, node) })
}

func (p plan) chains() api.Chains { return of(p.nodes, p.lists...) }

// with is a plan where a list is another one.
func (p plan) with(at int, l []int) plan {
	lists := slices.Clone(p.lists)
	lists[at] = l
	return plan{p.nodes, lists}
}

// P6.1

func TestNew(t *testing.T) {
	for _, nodes := range []int{0, 1, 2, 3, 255, 256, 257, 1023, 1024} {
		for _, lists := range []int{1, 2, 3, 16, 255, 256} {
			c, e := New(nodes, lists)
			is(t, "new", c, of(nodes, empty(lists)...), e)
		}
	}
	for _, x := range []struct{ nodes, lists int }{{-1, 1}, {1025, 1}, {math.MinInt, 1}, {math.MaxInt, 1}, {0, 0}, {1, 0}, {1024, 0}, {0, -1}, {1, 257}, {1, math.MinInt}, {1, math.MaxInt}, {-1, 0}, {1025, 257}, {-2, -2}, {0, 1024}} {
		c, e := New(x.nodes, x.lists)
		zero(t, "no count", 0, c, e, api.ErrArg)
	}
}

func TestCheck(t *testing.T) {
	for i, p := range good() {
		if e := Check(p.chains()); e != api.OK {
			t.Errorf("%d: error %d", i, e)
		}
	}
	for i, c := range bad() {
		if e := Check(c); e != api.ErrArg {
			t.Errorf("%d: error %d: %v", i, e, c)
		}
	}
}

// key are the parts of small chains, one behind the other.
type key [8]int

func keyOf(c api.Chains) key {
	var k key
	copy(k[:], slices.Concat(c.Next, c.Head, c.Tail))
	return k
}

// arranged goes through all lists that so many nodes may be in: node by node, it is in none, or comes at a place of one.
func arranged(nodes int, lists [][]int, node int, tell func([][]int)) {
	if node == nodes {
		tell(lists)
		return
	}
	arranged(nodes, lists, node+1, tell)
	for i, l := range lists {
		for at := range len(l) + 1 {
			more := slices.Clone(lists)
			more[i] = slices.Insert(slices.Clone(l), at, node)
			arranged(nodes, more, node+1, tell)
		}
	}
}

// TestCheckAll holds of all small chains there are that just those may be which come of lists.
func TestCheckAll(t *testing.T) {
	for _, x := range []struct{ nodes, lists, may int }{{0, 1, 1}, {0, 2, 1}, {1, 1, 2}, {1, 2, 3}, {2, 1, 5}, {2, 2, 11}, {3, 1, 16}, {4, 1, 65}, {1, 3, 4}} {
		may := map[key]struct{}{}
		arranged(x.nodes, empty(x.lists), 0, func(l [][]int) { may[keyOf(of(x.nodes, l...))] = struct{}{} })
		if len(may) != x.may {
			t.Fatalf("%d nodes, %d lists: %d may be, and not %d", x.nodes, x.lists, len(may), x.may)
		}
		parts := slices.Repeat([]int{-3}, x.nodes+2*x.lists)
		for more := true; more; more = count(parts, -3, x.nodes) {
			c := api.Chains{Next: parts[:x.nodes], Head: parts[x.nodes : x.nodes+x.lists], Tail: parts[x.nodes+x.lists:]}
			want := api.ErrArg
			if _, ok := may[keyOf(c)]; ok {
				want = api.OK
			}
			if e := Check(c); e != want {
				t.Fatalf("%v: error %d, and not %d", c, e, want)
			}
		}
	}
}

// count goes on to the next numbers from least to most, till there are none.
func count(l []int, least, most int) bool {
	for i := range l {
		if l[i]++; l[i] <= most {
			return true
		}
		l[i] = least
	}
	return false
}

func TestSame(t *testing.T) {
	for i, p := range good() {
		for j, q := range good() {
			if a, b := p.chains(), q.chains(); Same(a, b) != (i == j) {
				t.Errorf("%d, %d: not %t", i, j, i == j)
			}
		}
	}
	for i, c := range bad() {
		if !Same(c, copied(c)) {
			t.Errorf("%d: not the same", i)
		}
	}
	for i, x := range []struct {
		a, b api.Chains
		is   bool
	}{
		{api.Chains{}, api.Chains{Next: list(), Head: list(), Tail: list()}, true},
		{of(0, nil), api.Chains{Next: list(), Head: list(-1), Tail: list(-1)}, true},
		{of(1, nil), api.Chains{Next: list(-1), Head: list(-1), Tail: list(-1)}, false},
		{of(1, nil), api.Chains{Next: list(-2), Head: list(0), Tail: list(-1)}, false},
		{of(1, nil), api.Chains{Next: list(-2), Head: list(-1), Tail: list(0)}, false},
		{of(1, nil), api.Chains{Next: list(-2), Head: list(-1)}, false},
		{of(1, nil), api.Chains{Next: list(-2), Tail: list(-1)}, false},
		{of(1, nil), of(0, nil), false},
		{of(1, nil), of(1, nil, nil), false},
		{of(3, list(0, 1, 2)), of(3, list(2, 1, 0)), false},
		{of(3, list(0, 1), list(2)), of(3, list(2), list(0, 1)), false},
		{api.Chains{Next: list(-2, -2)}, api.Chains{Head: list(-2, -2)}, false},
	} {
		if Same(x.a, x.b) != x.is || Same(x.b, x.a) != x.is {
			t.Errorf("%d: %v, %v: not %t", i, x.a, x.b, x.is)
		}
	}
}

func TestWalkAndWhere(t *testing.T) {
	for i, p := range good() {
		c := p.chains()
		for at, want := range p.lists {
			if l, e := Walk(c, at); !slices.Equal(l, want) || e != api.OK {
				t.Errorf("%d: list %d is %v, error %d, and not %v", i, at, l, e, want)
			}
		}
		for node := range p.nodes {
			if at, e := Where(c, node); at != p.ownerOf(node) || e != api.OK {
				t.Errorf("%d: node %d is in %d, error %d, and not in %d", i, node, at, e, p.ownerOf(node))
			}
		}
	}
}

// P6.2

func TestPush(t *testing.T) {
	for i, x := range []struct {
		p        plan
		at, node int
		then     api.Chains
	}{
		{plan{1, empty(1)}, 0, 0, of(1, list(0))},
		{plan{1, empty(256)}, 255, 0, of(1, slices.Concat(empty(255), [][]int{{0}})...)},
		{plan{2, empty(2)}, 1, 1, of(2, nil, list(1))},
		{plan{2, [][]int{{1}}}, 0, 0, of(2, list(1, 0))},
		{plan{5, [][]int{{3, 1}, {4}}}, 0, 0, of(5, list(3, 1, 0), list(4))},
		{plan{5, [][]int{{3, 1}, {4}}}, 1, 2, of(5, list(3, 1), list(4, 2))},
		{plan{5, [][]int{{3, 1}, nil, {4}}}, 1, 0, of(5, list(3, 1), list(0), list(4))},
		{plan{1024, [][]int{upTo(1023)}}, 0, 1023, of(1024, upTo(1024))},
	} {
		then, e := Push(x.p.chains(), x.at, x.node)
		is(t, "push", then, x.then, e)
		if l, _ := Walk(then, x.at); len(l) == 0 || l[len(l)-1] != x.node {
			t.Errorf("%d: not the last one: %v", i, l)
		}
	}
}

func TestPop(t *testing.T) {
	for i, x := range []struct {
		p        plan
		at, node int
		then     api.Chains
	}{
		{plan{1, [][]int{{0}}}, 0, 0, of(1, nil)},
		{plan{2, [][]int{{1, 0}}}, 0, 1, of(2, list(0))},
		{plan{3, [][]int{{1, 2, 0}}}, 0, 1, of(3, list(2, 0))},
		{plan{3, [][]int{{1}, {2, 0}}}, 1, 2, of(3, list(1), list(0))},
		{plan{3, [][]int{{1}, {2, 0}}}, 0, 1, of(3, nil, list(2, 0))},
		{plan{1024, [][]int{nil, downTo(1024)}}, 1, 1023, of(1024, nil, downTo(1023))},
	} {
		node, then, e := Pop(x.p.chains(), x.at)
		is(t, "pop", then, x.then, e)
		if node != x.node {
			t.Errorf("%d: %d, and not %d", i, node, x.node)
		}
		if at, e := Where(then, node); at != api.Last || e != api.OK {
			t.Errorf("%d: in list %d, error %d", i, at, e)
		}
	}
}

func TestPushWhatIsThereAndPopWhereNoneIs(t *testing.T) {
	for _, p := range good() {
		c := p.chains()
		for at, l := range p.lists {
			if len(l) == 0 {
				node, then, e := Pop(c, at)
				zero(t, "none", node, then, e, api.ErrNone)
				continue
			}
			for _, to := range []int{0, at, len(p.lists) - 1} {
				then, e := Push(c, to, l[len(l)/2])
				zero(t, "there", 0, then, e, api.ErrThere)
			}
		}
	}
}

// P6.3

func TestCut(t *testing.T) {
	c := of(5, list(3, 1, 0), list(4))
	for node, want := range []api.Chains{of(5, list(3, 1), list(4)), of(5, list(3, 0), list(4)), {}, of(5, list(1, 0), list(4)), of(5, list(3, 1, 0), nil)} {
		then, e := Cut(c, node)
		if node == 2 {
			zero(t, "in no list", 0, then, e, api.ErrNone)
			continue
		}
		is(t, "cut", then, want, e)
	}
}

func TestJoin(t *testing.T) {
	c := of(7, list(3, 1, 0), list(4), nil, nil, list(6, 5))
	for _, x := range []struct {
		from, to int
		then     api.Chains
	}{
		{0, 1, of(7, nil, list(4, 3, 1, 0), nil, nil, list(6, 5))},
		{1, 0, of(7, list(3, 1, 0, 4), nil, nil, nil, list(6, 5))},
		{0, 2, of(7, nil, list(4), list(3, 1, 0), nil, list(6, 5))},
		{1, 3, of(7, list(3, 1, 0), nil, nil, list(4), list(6, 5))},
		{4, 0, of(7, list(3, 1, 0, 6, 5), list(4), nil, nil, nil)},
		{0, 4, of(7, nil, list(4), nil, nil, list(6, 5, 3, 1, 0))},
		{2, 0, c}, {3, 1, c}, {2, 3, c}, {3, 2, c},
	} {
		then, e := Join(c, x.from, x.to)
		is(t, "join", then, x.then, e)
	}
	then, e := Join(of(1024, list(1023), upTo(1023)), 0, 1)
	is(t, "all", then, of(1024, nil, upTo(1024)), e)
}

// TestCutAndJoinAll cuts and joins all that there is in all chains.
func TestCutAndJoinAll(t *testing.T) {
	for _, p := range good() {
		c := p.chains()
		for _, node := range somePlaces(p.nodes) {
			at := p.ownerOf(node)
			then, e := Cut(c, node)
			if at < 0 {
				zero(t, "in no list", 0, then, e, api.ErrNone)
				continue
			}
			left := slices.DeleteFunc(slices.Clone(p.lists[at]), func(x int) bool { return x == node })
			is(t, "cut", then, p.with(at, left).chains(), e)
		}
		for _, from := range somePlaces(len(p.lists)) {
			for _, to := range somePlaces(len(p.lists)) {
				then, e := Join(c, from, to)
				if from == to {
					zero(t, "the same", 0, then, e, api.ErrArg)
					continue
				}
				is(t, "join", then, p.with(to, slices.Concat(p.lists[to], p.lists[from])).with(from, nil).chains(), e)
			}
		}
	}
}

// somePlaces are all of few places, and of many some, with the first ones and the last ones.
func somePlaces(n int) []int {
	l := upTo(n)
	return slices.DeleteFunc(l, func(x int) bool { return x > 5 && x < n-3 && x%61 != 0 })
}

// Wrong inputs.

func TestOfBadChains(t *testing.T) {
	for _, c := range bad() {
		for _, n := range append([]int{0, 1, 2}, noPlaces...) {
			l, e := Walk(c, n)
			zero(t, "walk", len(l), api.Chains{}, e, api.ErrArg)
			at, e := Where(c, n)
			zero(t, "where", at, api.Chains{}, e, api.ErrArg)
			node, then, e := Pop(c, n)
			zero(t, "pop", node, then, e, api.ErrArg)
			then, e = Cut(c, n)
			zero(t, "cut", 0, then, e, api.ErrArg)
			for _, m := range append([]int{0, 1, 2}, noPlaces...) {
				then, e := Push(c, n, m)
				zero(t, "push", 0, then, e, api.ErrArg)
				then, e = Join(c, n, m)
				zero(t, "join", 0, then, e, api.ErrArg)
			}
		}
	}
}

func TestOfNoNodeAndNoList(t *testing.T) {
	for _, p := range good() {
		c := p.chains()
		for _, node := range append([]int{p.nodes}, noPlaces...) {
			at, e := Where(c, node)
			zero(t, "where", at, api.Chains{}, e, api.ErrArg)
			then, e := Cut(c, node)
			zero(t, "cut", 0, then, e, api.ErrArg)
			then, e = Push(c, 0, node)
			zero(t, "push of no node", 0, then, e, api.ErrArg)
		}
		for _, at := range append([]int{len(p.lists)}, noPlaces...) {
			l, e := Walk(c, at)
			zero(t, "walk", len(l), api.Chains{}, e, api.ErrArg)
			node, then, e := Pop(c, at)
			zero(t, "pop", node, then, e, api.ErrArg)
			// Whether a node is in a list, or in none, comes behind that.
			for _, node := range somePlaces(p.nodes) {
				then, e = Push(c, at, node)
				zero(t, "push to no list", 0, then, e, api.ErrArg)
			}
			for _, x := range []struct{ from, to int }{{at, 0}, {0, at}, {at, at}, {at, len(p.lists) - 1}, {len(p.lists) - 1, at}} {
				then, e = Join(c, x.from, x.to)
				zero(t, "join", 0, then, e, api.ErrArg)
			}
		}
	}
}

// P6.4

func TestWhatIsPushedIsPoppedInOrder(t *testing.T) {
	for _, order := range [][]int{{3, 1}, {0}, upTo(1024), downTo(1024), {5, 900, 2, 1023, 0, 7}} {
		c, _ := New(1024, 3)
		for _, node := range order {
			then, e := Push(c, 1, node)
			if e != api.OK {
				t.Fatalf("%d: error %d", node, e)
			}
			c = then
		}
		for _, want := range order {
			node, then, e := Pop(c, 1)
			if node != want || e != api.OK {
				t.Fatalf("%d, error %d, and not %d", node, e, want)
			}
			c = then
		}
		is(t, "all popped", c, of(1024, empty(3)...), api.OK)
	}
}

// move does something with chains, and with the lists that these are to be, by a number.
func (p plan) move(t *testing.T, c api.Chains, n int) (plan, api.Chains) {
	t.Helper()
	node, a, b := n>>4%p.nodes, n>>12%len(p.lists), n>>16%len(p.lists)
	at := p.ownerOf(node)
	var then api.Chains
	var e, want api.Errno
	q := p
	switch kind := n % 8; {
	case kind < 4:
		then, e = Push(c, a, node)
		if at >= 0 {
			want = api.ErrThere
		} else {
			q = p.with(a, append(slices.Clone(p.lists[a]), node))
		}
	case kind < 6:
		then, e = Cut(c, node)
		if at < 0 {
			want = api.ErrNone
		} else {
			q = p.with(at, slices.DeleteFunc(slices.Clone(p.lists[at]), func(x int) bool { return x == node }))
		}
	case kind == 6:
		var first int
		first, then, e = Pop(c, a)
		if len(p.lists[a]) == 0 {
			want = api.ErrNone
		} else {
			q = p.with(a, p.lists[a][1:])
			if first != p.lists[a][0] {
				t.Fatalf("%d is popped, and not %d", first, p.lists[a][0])
			}
		}
	default:
		then, e = Join(c, a, b)
		if a == b {
			want = api.ErrArg
		} else {
			q = p.with(b, slices.Concat(p.lists[b], p.lists[a])).with(a, nil)
		}
	}
	if want != api.OK {
		zero(t, "refused", 0, then, e, want)
		return p, c
	}
	is(t, "moved", then, q.chains(), e)
	return q, then
}

// TestNodesAreInOneListAtTheMost goes far, and holds all against plain lists.
func TestNodesAreInOneListAtTheMost(t *testing.T) {
	for _, x := range []struct{ nodes, lists int }{{1, 1}, {1, 2}, {2, 2}, {5, 3}, {12, 4}, {40, 7}, {256, 16}, {1024, 256}} {
		p := plan{x.nodes, empty(x.lists)}
		c, _ := New(x.nodes, x.lists)
		seed := uint32(x.nodes)
		for range 600 {
			seed = seed*1664525 + 1013904223
			if p, c = p.move(t, c, int(seed>>3)); t.Failed() {
				return
			}
			hold(t, p, c)
		}
	}
}

// hold holds that each node is in just the list that has it, once.
func hold(t *testing.T, p plan, c api.Chains) {
	t.Helper()
	met := map[int]int{}
	for _, at := range somePlaces(len(p.lists)) {
		l, e := Walk(c, at)
		if !slices.Equal(l, p.lists[at]) || e != api.OK {
			t.Fatalf("list %d is %v, error %d, and not %v", at, l, e, p.lists[at])
		}
		for _, node := range l {
			if met[node]++; met[node] > 1 {
				t.Fatalf("node %d is there twice", node)
			}
		}
	}
	for _, node := range somePlaces(p.nodes) {
		if at, e := Where(c, node); at != p.ownerOf(node) || e != api.OK {
			t.Fatalf("node %d is in %d, error %d, and not in %d", node, at, e, p.ownerOf(node))
		}
	}
}

// scribble writes into all parts of chains.
func scribble(c api.Chains) {
	for _, l := range [][]int{c.Next, c.Head, c.Tail} {
		for i := range l {
			l[i] += 77
		}
	}
}

// answers are all chains that are told of some, whatever they are.
func answers(c api.Chains) []api.Chains {
	var all []api.Chains
	for _, n := range []int{0, 1, 2, len(c.Next) - 1} {
		pushed, _ := Push(c, 0, n)
		_, popped, _ := Pop(c, n)
		cut, _ := Cut(c, n)
		joined, _ := Join(c, 0, n)
		back, _ := Join(c, n, 0)
		all = append(all, pushed, popped, cut, joined, back)
	}
	return all
}

// TestWhoseIsWhat holds that what is handed in stays as it is, and that what is told is new, part by part.
func TestWhoseIsWhat(t *testing.T) {
	all := bad()
	for _, p := range good() {
		all = append(all, p.chains())
	}
	for i, c := range all {
		before := copied(c)
		told := answers(c)
		Walk(c, 0)
		Where(c, 0)
		Check(c)
		Same(c, c)
		if !equal(c, before) {
			t.Fatalf("%d: changed to %v", i, c)
		}
		for k := range told {
			handed := copied(before)
			x := answers(handed)[k]
			first := copied(x)
			scribble(handed)
			if !equal(x, first) {
				t.Errorf("%d, %d: what was told changed with what was handed in", i, k)
			}
			handed = copied(before)
			x = answers(handed)[k]
			scribble(x)
			if !equal(handed, before) {
				t.Errorf("%d, %d: what was handed in changed with what was told", i, k)
			}
			if scribble(first); !equal(x, first) {
				t.Errorf("%d, %d: the parts of what was told share with one another", i, k)
			}
		}
	}
	a, _ := New(3, 2)
	b, _ := New(3, 2)
	scribble(a)
	is(t, "new", b, of(3, nil, nil), api.OK)
	if !equal(a, api.Chains{Next: list(75, 75, 75), Head: list(76, 76), Tail: list(76, 76)}) {
		t.Errorf("new chains share parts: %v", a)
	}
	c := of(3, list(2, 0))
	l, _ := Walk(c, 0)
	l[0], l[1] = 9, 9
	is(t, "walked", c, of(3, list(2, 0)), api.OK)
}
