package code

import (
	"iter"
	"slices"

	"ravel/api"
)

// Where the parts of an instruction's text are, and how long it is.
const (
	opAt = iota
	highAt
	lowAt
	secondAt
	size
)

func part(x api.Instr) []byte {
	b := make([]byte, size)
	b[opAt] = byte(x.Op)
	b[highAt], b[lowAt] = byte(x.A>>8), byte(x.A)
	b[secondAt] = byte(x.B)
	return b
}

// programs goes through the programs of a text, as far as there are any: where it ends too early, the last ones have too few instructions, or none.
func programs(b []byte) iter.Seq[[]api.Instr] {
	return func(yield func([]api.Instr) bool) {
		many, rest := head(b)
		for range many {
			long, behind := head(rest)
			end := min(long*size, len(behind))
			if !yield(slices.Collect(instrs(behind[:end]))) {
				return
			}
			rest = behind[end:]
		}
	}
}

// instrs goes through the instructions of a text; what is too short for one at its end is left out.
func instrs(b []byte) iter.Seq[api.Instr] {
	return func(yield func(api.Instr) bool) {
		for rest := b; len(rest) >= size; rest = rest[size:] {
			a := int(rest[highAt])<<8 + int(rest[lowAt])
			if !yield(api.Instr{Op: int(rest[opAt]), A: a, B: int(rest[secondAt])}) {
				return
			}
		}
	}
}

// head is how many there are of what follows, and that.
func head(b []byte) (int, []byte) {
	if len(b) == 0 {
		return 0, nil
	}
	return int(b[0]), b[1:]
}
