package ring

import (
	"ravel/api"
	"ravel/cell"
)

// Where the parts of a deque are, from its Base on.
const (
	topAt = iota
	bottomAt
	slotsAt
)

// slotAt is where the slot of a number, which is not below 0, is from a deque's Base on.
func slotAt(q api.Deque, n int64) int { return slotsAt + int(n%int64(q.Cap)) }

// counts tells whether a number may be a top, or a bottom, that is not below least.
func counts(n, least int64) bool { return n >= least && n <= api.MaxCount }

// reach is a hand in a deque of cells.
type reach struct {
	api.Hand
	deque api.Deque
	cells api.Mem
}

// point is which access of what a hand is at.
type point struct{ kind, pc int }

func accesses() map[point]func(*reach) api.Errno {
	return map[point]func(*reach) api.Errno{
		{api.PushH, 0}:  (*reach).loadTop,
		{api.PushH, 1}:  (*reach).seeRoom,
		{api.PushH, 2}:  (*reach).storeNumber,
		{api.PushH, 3}:  (*reach).raiseBottom,
		{api.PopH, 0}:   (*reach).loadBottom,
		{api.PopH, 1}:   (*reach).lowerBottom,
		{api.PopH, 2}:   (*reach).seeAny,
		{api.PopH, 3}:   (*reach).restoreBottom,
		{api.PopH, 4}:   (*reach).loadLast,
		{api.PopH, 5}:   (*reach).claimLast,
		{api.PopH, 6}:   (*reach).closeBottom,
		{api.StealH, 0}: (*reach).loadTop,
		{api.StealH, 1}: (*reach).seeFirst,
		{api.StealH, 2}: (*reach).loadFirst,
		{api.StealH, 3}: (*reach).claimFirst,
	}
}

// next is a hand's next access; a hand that has none may not be.
func next(h api.Hand) (func(*reach) api.Errno, api.Errno) {
	access, is := accesses()[point{h.Kind, h.Pc}]
	if !is || !counts(h.T, -1) || !counts(h.B, -1) || h.State < api.Going || h.State > api.Lost {
		return nil, api.ErrArg
	}
	return access, api.OK
}

// nextIn is the next access of a hand in a deque, if both may be.
func nextIn(m api.Mem, q api.Deque, h api.Hand) (func(*reach) api.Errno, api.Errno) {
	if e := Check(m, q); e != api.OK {
		return nil, e
	}
	return next(h)
}

// do is the one access of cells that each of the table's does. By cell.Do its cells are new, of a load as well.
func (r *reach) do(kind, at int, a, b int64) (int64, api.Errno) {
	cells, told, e := cell.Do(r.cells, api.Mic{Kind: kind, At: r.deque.Base + at, A: a, B: b})
	r.cells = cells
	return told, e
}

func (r *reach) store(at int, x int64) api.Errno {
	_, e := r.do(api.StoreM, at, x, 0)
	return e
}

// loadCount loads a top, or a bottom.
func (r *reach) loadCount(at int, least int64) (int64, api.Errno) {
	n, e := r.do(api.LoadM, at, 0, 0)
	if e == api.OK && !counts(n, least) {
		return 0, api.ErrState
	}
	return n, e
}

// loadSlot takes the number in the slot of n.
func (r *reach) loadSlot(n int64) api.Errno {
	if n < 0 {
		return api.ErrState
	}
	v, e := r.do(api.LoadM, slotAt(r.deque, n), 0, 0)
	r.V = v
	return e
}

// claim tells whether the top was T, and so the slot of T is this hand's.
func (r *reach) claim() (bool, api.Errno) {
	if r.T < 0 {
		return false, api.ErrState
	}
	told, e := r.do(api.CasM, topAt, r.T, r.T+1)
	return told == 1, e
}

// endIf ends the hand, if so; else it goes on.
func (r *reach) endIf(so bool, state int) {
	if so {
		r.State = state
	}
}

func (r *reach) loadTop() (e api.Errno) {
	r.T, e = r.loadCount(topAt, 0)
	return e
}

func (r *reach) loadBottom() (e api.Errno) {
	r.B, e = r.loadCount(bottomAt, 0)
	return e
}

func (r *reach) seeRoom() api.Errno {
	e := r.loadBottom()
	r.endIf(r.B-r.T >= int64(r.deque.Cap), api.Full)
	return e
}

func (r *reach) storeNumber() api.Errno {
	if r.B < 0 {
		return api.ErrState
	}
	return r.store(slotAt(r.deque, r.B), r.V)
}

func (r *reach) raiseBottom() api.Errno {
	if r.B < 0 {
		return api.ErrState
	}
	r.State = api.Done
	return r.store(bottomAt, r.B+1)
}

func (r *reach) lowerBottom() api.Errno {
	if r.B < 0 {
		return api.ErrState
	}
	r.B--
	return r.store(bottomAt, r.B)
}

func (r *reach) seeAny() api.Errno {
	e := r.loadTop()
	if r.T <= r.B {
		r.Pc = 4
	}
	return e
}

func (r *reach) restoreBottom() api.Errno {
	if r.T < 0 {
		return api.ErrState
	}
	r.State = api.Empty
	return r.store(bottomAt, r.T)
}

func (r *reach) loadLast() api.Errno {
	e := r.loadSlot(r.B)
	r.endIf(r.B > r.T, api.Done)
	return e
}

// claimLast asks by the top, as the last one may be the first one as well, which others steal.
func (r *reach) claimLast() (e api.Errno) {
	r.Won, e = r.claim()
	return e
}

func (r *reach) closeBottom() api.Errno {
	if r.T < 0 {
		return api.ErrState
	}
	r.State = api.Empty
	r.endIf(r.Won, api.Done)
	return r.store(bottomAt, r.T+1)
}

// seeFirst may meet a bottom of -1: where there are none, and none ever were, its owner lowers it so far ahead of restoring it.
func (r *reach) seeFirst() (e api.Errno) {
	r.B, e = r.loadCount(bottomAt, -1)
	r.endIf(r.B-r.T < 1, api.Empty)
	return e
}

func (r *reach) loadFirst() api.Errno { return r.loadSlot(r.T) }

func (r *reach) claimFirst() api.Errno {
	won, e := r.claim()
	r.endIf(won, api.Done)
	r.endIf(!won, api.Lost)
	return e
}
