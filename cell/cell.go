// Package cell is layer 1: see shared/doc/01-cell.md.
package cell

import (
	"slices"

	"ravel/api"
)

// New is cells of 0, Check tells whether cells may be, Same whether two are the same.
func New(n int) (api.Mem, api.Errno) {
	if n < 0 || n > api.MaxCells {
		return nil, api.ErrArg
	}
	return make(api.Mem, n), api.OK
}

func Check(m api.Mem) api.Errno {
	if len(m) > api.MaxCells {
		return api.ErrArg
	}
	return api.OK
}

func Same(a, b api.Mem) bool { return slices.Equal(a, b) }

// Load, Store, Cas and Add are accesses, Do does one, All does several ones.
func Load(m api.Mem, at int) (int64, api.Errno) {
	if e := Check(m); e != api.OK {
		return 0, e
	}
	return access(m, api.Mic{Kind: api.LoadM, At: at})
}

func Store(m api.Mem, at int, x int64) (api.Mem, api.Errno) {
	after, _, e := Do(m, api.Mic{Kind: api.StoreM, At: at, A: x})
	return after, e
}

func Cas(m api.Mem, at int, old, x int64) (api.Mem, bool, api.Errno) {
	after, told, e := Do(m, api.Mic{Kind: api.CasM, At: at, A: old, B: x})
	return after, told == 1, e
}

func Add(m api.Mem, at int, by int64) (api.Mem, int64, api.Errno) {
	return Do(m, api.Mic{Kind: api.AddM, At: at, A: by})
}

func Do(m api.Mem, o api.Mic) (api.Mem, int64, api.Errno) {
	if e := Check(m); e != api.OK {
		return nil, 0, e
	}
	after := slices.Clone(m)
	told, e := access(after, o)
	if e != api.OK {
		return nil, 0, e
	}
	return after, told, api.OK
}

// All copies the cells once, and not once an access as Do after Do would: a list may be long.
func All(m api.Mem, l []api.Mic) (api.Mem, []int64, api.Errno) {
	if e := Check(m); e != api.OK {
		return nil, nil, e
	}
	after := slices.Clone(m)
	told := make([]int64, len(l))
	for i := range len(l) {
		x, e := access(after, l[i])
		if e != api.OK {
			return nil, nil, e
		}
		told[i] = x
	}
	return after, told, api.OK
}

// access writes into the cells that it is handed: whoever calls it for more than a load hands it a copy of its own.
func access(own api.Mem, o api.Mic) (int64, api.Errno) {
	if o.At < 0 || o.At >= len(own) {
		return 0, api.ErrArg
	}
	was := own[o.At]
	switch o.Kind {
	case api.LoadM:
		return was, api.OK
	case api.StoreM:
		own[o.At] = o.A
		return 0, api.OK
	case api.CasM:
		if was != o.A {
			return 0, api.OK
		}
		own[o.At] = o.B
		return 1, api.OK
	case api.AddM:
		if !fits(was, o.A) {
			return 0, api.ErrLarge
		}
		own[o.At] = was + o.A
		return was, api.OK
	}
	return 0, api.ErrArg
}

// fits leans on the wrap of 64 bits: a sum that went over lies on the wrong side of a.
func fits(a, b int64) bool { return (a+b < a) == (b < 0) }
