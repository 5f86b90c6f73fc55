package calc

import (
	"math/bits"

	"ravel/api"
)

// wide is a number of 128 bits: hi times 2^64, and lo. What calc makes of two numbers of 64 bits always goes into it.
type wide struct {
	hi int64
	lo uint64
}

func widen(n int64) wide { return wide{n >> 63, uint64(n)} }

// narrow leans on this: a number goes into 64 bits just if its lower half alone, made wide again, is the same.
func (x wide) narrow() (int64, api.Errno) {
	n := int64(x.lo)
	if x != widen(n) {
		return 0, api.ErrLarge
	}
	return n, api.OK
}

func (x wide) plus(y wide) wide {
	lo, carry := bits.Add64(x.lo, y.lo, 0)
	return wide{x.hi + y.hi + int64(carry), lo}
}

func (x wide) minus(y wide) wide {
	lo, borrow := bits.Sub64(x.lo, y.lo, 0)
	return wide{x.hi - y.hi - int64(borrow), lo}
}

// times takes off what a number below 0 has too much, as bits.Mul64 reads it as 2^64 more than it is.
func times(a, b int64) wide {
	high, lo := bits.Mul64(uint64(a), uint64(b))
	hi := int64(high)
	if a < 0 {
		hi -= b
	}
	if b < 0 {
		hi -= a
	}
	return wide{hi, lo}
}

// by divides a number of 0 or above by one above 0. It asks ahead whether the quotient goes into 64 bits, as bits.Div64 panics where it does not.
func (x wide) by(c int64) (int64, api.Errno) {
	if x.hi >= c {
		return 0, api.ErrLarge
	}
	q, _ := bits.Div64(uint64(x.hi), x.lo, uint64(c))
	return wide{0, q}.narrow()
}

// against is -1, 0 or 1, as x is less than, the same as, or more than y.
func (x wide) against(y wide) int {
	switch {
	case x == y:
		return 0
	case x.less(y):
		return -1
	}
	return 1
}

func (x wide) less(y wide) bool { return x.hi < y.hi || x.hi == y.hi && x.lo < y.lo }

// apart is how far x and y are apart, 0 or above.
func (x wide) apart(y wide) wide {
	if x.less(y) {
		return y.minus(x)
	}
	return x.minus(y)
}
