package sema

import (
	"slices"

	"ravel/api"
)

// stock is how many may go on at once.
type stock struct{ free int }

func (s *stock) may() bool { return s.free >= 0 && s.free <= api.MaxFree }

// take takes one, if there is one.
func (s *stock) take() bool {
	if s.free == 0 {
		return false
	}
	s.free--
	return true
}

// give puts one back, if there is room.
func (s *stock) give() bool {
	if s.free == api.MaxFree {
		return false
	}
	s.free++
	return true
}

// line is who waits, in order. Who is in it stands in a map as well, so that one who joins is not held against all others.
type line struct {
	order []int64
	in    map[int64]struct{}
}

func (l *line) has(id int64) bool {
	_, is := l.in[id]
	return is
}

func (l *line) empty() bool { return len(l.order) == 0 }

func (l *line) full() bool { return len(l.order) >= api.MaxWait }

func (l *line) join(id int64) {
	l.order = append(l.order, id)
	l.in[id] = struct{}{}
}

func (l *line) leave(id int64) {
	l.order = slices.DeleteFunc(l.order, func(x int64) bool { return x == id })
	delete(l.in, id)
}

// next lets who waits first go on; somebody has to wait.
func (l *line) next() int64 {
	first := l.order[0]
	l.leave(first)
	return first
}

// fill lets all ids join, one behind another, and tells whether they may.
func (l *line) fill(ids []int64) bool {
	if len(ids) > api.MaxWait {
		return false
	}
	l.in = make(map[int64]struct{}, len(ids))
	for _, id := range ids {
		if id < 0 || l.has(id) {
			return false
		}
		l.join(id)
	}
	return true
}

// gate is a semaphore that is handed on: it shares nothing with the one that was handed in, so that its parts may be written into.
type gate struct {
	stock
	line
}

// gateOf is a semaphore's gate, if it may be.
func gateOf(s api.Sem) (*gate, api.Errno) {
	g := &gate{stock: stock{free: s.Free}}
	if !g.may() || !g.fill(s.Wait) || g.free > 0 && !g.empty() {
		return nil, api.ErrArg
	}
	return g, api.OK
}

func (g *gate) sem() api.Sem { return api.Sem{Free: g.free, Wait: g.order} }
