package calc

import (
	"math"
	"math/big"
	"testing"

	"ravel/api"
)

// The least, and the greatest number.
const (
	least = math.MinInt64
	most  = math.MaxInt64
)

// root is the greatest number whose square goes into 64 bits.
const root = 3037000499

// numbers are those at which 64 bits, and their halves, have their edges, and some between.
var numbers = []int64{
	least, least + 1, least + 2, least / 2, least/2 - 1, least / 3, -1<<32 - 1, -1 << 32, -root - 1, -root, -1 << 31, -720720, -7, -3, -2, -1,
	0, 1, 2, 3, 7, 720720, 1 << 31, root, root + 1, 1<<32 - 1, 1 << 32, 1<<32 + 1, most / 3, most / 2, most/2 + 1, most - 2, most - 1, most,
}

// few are some of the numbers, where all fours of them are gone through.
var few = []int64{least, least + 1, least / 2, -1 << 32, -root, -3, -1, 0, 1, 2, 3, root + 1, 1 << 32, most / 2, most - 1, most}

// mixed tells numbers of all lengths, by a short rule.
func mixed() func() int64 {
	seed := uint64(1)
	return func() int64 {
		seed = seed*6364136223846793005 + 1442695040888963407
		return int64(seed^seed>>29) >> (seed >> 58)
	}
}

// fours tells all fours of few, and many mixed ones.
func fours(yield func(a, b, c, d int64)) {
	for _, a := range few {
		for _, b := range few {
			for _, c := range few {
				for _, d := range few {
					yield(a, b, c, d)
				}
			}
		}
	}
	next := mixed()
	for range 20000 {
		yield(next(), next(), next(), next())
	}
}

// The same numbers without a bound are what the answers are held against.

func bigOf(n int64) *big.Int { return big.NewInt(n) }

func product(a, b int64) *big.Int { return new(big.Int).Mul(bigOf(a), bigOf(b)) }

// fit is what a call ought to answer of a number.
func fit(x *big.Int) (int64, api.Errno) {
	if !x.IsInt64() {
		return 0, api.ErrLarge
	}
	return x.Int64(), api.OK
}

// P2.1

func TestAddSubMul(t *testing.T) {
	for i, x := range []struct {
		name    string
		call    func(a, b int64) (int64, api.Errno)
		a, b, n int64
		e       api.Errno
	}{
		{"Add", Add, 2, 3, 5, api.OK},
		{"Add", Add, 3, -5, -2, api.OK},
		{"Add", Add, -3, -5, -8, api.OK},
		{"Add", Add, most, 0, most, api.OK},
		{"Add", Add, most - 1, 1, most, api.OK},
		{"Add", Add, most, least, -1, api.OK},
		{"Add", Add, least + 1, -1, least, api.OK},
		{"Add", Add, least / 2, least / 2, least, api.OK},
		{"Add", Add, most, 1, 0, api.ErrLarge},
		{"Add", Add, 1, most, 0, api.ErrLarge},
		{"Add", Add, most, most, 0, api.ErrLarge},
		{"Add", Add, least, -1, 0, api.ErrLarge},
		{"Add", Add, least, least, 0, api.ErrLarge},
		{"Sub", Sub, 2, 3, -1, api.OK},
		{"Sub", Sub, 3, -5, 8, api.OK},
		{"Sub", Sub, least, 0, least, api.OK},
		{"Sub", Sub, least, least, 0, api.OK},
		{"Sub", Sub, most, most, 0, api.OK},
		{"Sub", Sub, -1, least, most, api.OK},
		{"Sub", Sub, -1, most, least, api.OK},
		{"Sub", Sub, 0, most, -most, api.OK},
		{"Sub", Sub, 0, least, 0, api.ErrLarge},
		{"Sub", Sub, -2, most, 0, api.ErrLarge},
		{"Sub", Sub, least, 1, 0, api.ErrLarge},
		{"Sub", Sub, most, -1, 0, api.ErrLarge},
		{"Sub", Sub, least, most, 0, api.ErrLarge},
		{"Sub", Sub, most, least, 0, api.ErrLarge},
		{"Mul", Mul, 2, 3, 6, api.OK},
		{"Mul", Mul, 3, -5, -15, api.OK},
		{"Mul", Mul, -3, -5, 15, api.OK},
		{"Mul", Mul, 0, least, 0, api.OK},
		{"Mul", Mul, most, -1, -most, api.OK},
		{"Mul", Mul, least, 1, least, api.OK},
		{"Mul", Mul, -1 << 32, 1 << 31, least, api.OK},
		{"Mul", Mul, root, root, root * root, api.OK},
		{"Mul", Mul, least, -1, 0, api.ErrLarge},
		{"Mul", Mul, -1, least, 0, api.ErrLarge},
		{"Mul", Mul, -1 << 32, -1 << 31, 0, api.ErrLarge},
		{"Mul", Mul, 1 << 32, 1 << 31, 0, api.ErrLarge},
		{"Mul", Mul, 1 << 32, 1 << 32, 0, api.ErrLarge},
		{"Mul", Mul, root + 1, root + 1, 0, api.ErrLarge},
		{"Mul", Mul, most, most, 0, api.ErrLarge},
		{"Mul", Mul, least, least, 0, api.ErrLarge},
		{"Mul", Mul, least, most, 0, api.ErrLarge},
	} {
		if n, e := x.call(x.a, x.b); n != x.n || e != x.e {
			t.Errorf("%d: %s(%d, %d): %d, error %d", i, x.name, x.a, x.b, n, e)
		}
	}
}

// TestAllPairs holds sums, differences and products against the same ones without a bound.
func TestAllPairs(t *testing.T) {
	for _, a := range numbers {
		for _, b := range numbers {
			pair(t, a, b)
		}
	}
	next := mixed()
	for range 50000 {
		pair(t, next(), next())
	}
}

func pair(t *testing.T, a, b int64) {
	t.Helper()
	want, f := fit(new(big.Int).Add(bigOf(a), bigOf(b)))
	if n, e := Add(a, b); n != want || e != f {
		t.Errorf("Add(%d, %d): %d, error %d", a, b, n, e)
	}
	want, f = fit(new(big.Int).Sub(bigOf(a), bigOf(b)))
	if n, e := Sub(a, b); n != want || e != f {
		t.Errorf("Sub(%d, %d): %d, error %d", a, b, n, e)
	}
	want, f = fit(product(a, b))
	if n, e := Mul(a, b); n != want || e != f {
		t.Errorf("Mul(%d, %d): %d, error %d", a, b, n, e)
	}
}

// P2.2

func TestMulDiv(t *testing.T) {
	for i, x := range []struct {
		a, b, c, n int64
		e          api.Errno
	}{
		{7, 3, 2, 10, api.OK},
		{7, 3, 7, 3, api.OK},
		{1, 1, 2, 0, api.OK},
		{5, 5, 26, 0, api.OK},
		{0, 5, 3, 0, api.OK},
		{0, 0, 1, 0, api.OK},
		{0, 0, most, 0, api.OK},
		{most, 1, 1, most, api.OK},
		{most, 2, 2, most, api.OK},
		{most, most, most, most, api.OK},
		{most, most - 1, most, most - 1, api.OK},
		{most - 1, most - 1, most, most - 2, api.OK},
		{1 << 62, 2, 1, 0, api.ErrLarge},
		{1 << 62, 4, 2, 0, api.ErrLarge},
		{1 << 62, 4, 3, 6148914691236517205, api.OK},
		{most, 2, 1, 0, api.ErrLarge},
		{most, most, 1, 0, api.ErrLarge},
		{most, most, most - 1, 0, api.ErrLarge},
		{most, most, 1 << 62, 0, api.ErrLarge},
		{1 << 62, 1 << 62, 1 << 61, 0, api.ErrLarge},
		{1 << 62, 1 << 62, 1 << 60, 0, api.ErrLarge},
		{1 << 62, 1 << 62, 1 << 62, 1 << 62, api.OK},
		{1, 1, 0, 0, api.ErrArg},
		{0, 0, 0, 0, api.ErrArg},
		{most, most, 0, 0, api.ErrArg},
		{1, 1, -1, 0, api.ErrArg},
		{most, most, -1, 0, api.ErrArg},
		{-1, 1, 1, 0, api.ErrArg},
		{1, -1, 1, 0, api.ErrArg},
		{-1, -1, 1, 0, api.ErrArg},
		{-1, 0, 1, 0, api.ErrArg},
		{0, -1, 1, 0, api.ErrArg},
		{-1, -1, -1, 0, api.ErrArg},
		{least, 1, 1, 0, api.ErrArg},
		{1, least, 1, 0, api.ErrArg},
		{1, 1, least, 0, api.ErrArg},
		{least, least, least, 0, api.ErrArg},
	} {
		if n, e := MulDiv(x.a, x.b, x.c); n != x.n || e != x.e {
			t.Errorf("%d: MulDiv(%d, %d, %d): %d, error %d", i, x.a, x.b, x.c, n, e)
		}
	}
}

// TestMulDivOfAll holds MulDiv against the same without a bound.
func TestMulDivOfAll(t *testing.T) {
	fours(func(a, b, c, _ int64) {
		want, f := int64(0), api.ErrArg
		if a >= 0 && b >= 0 && c > 0 {
			want, f = fit(new(big.Int).Div(product(a, b), bigOf(c)))
		}
		if n, e := MulDiv(a, b, c); n != want || e != f {
			t.Errorf("MulDiv(%d, %d, %d): %d, error %d, and not %d, error %d", a, b, c, n, e, want, f)
		}
	})
}

// P2.3

func TestCmp(t *testing.T) {
	for i, x := range []struct {
		a, b, c, d int64
		way        int
		e          api.Errno
	}{
		{3, 4, 2, 3, 1, api.OK},
		{2, 3, 3, 4, -1, api.OK},
		{1, 2, 2, 4, 0, api.OK},
		{0, 5, 0, 7, 0, api.OK},
		{-1, 2, 1, 2, -1, api.OK},
		{1, 2, -1, 2, 1, api.OK},
		{-1, 3, -1, 2, 1, api.OK},
		{-1, 2, -1, 3, -1, api.OK},
		{-2, 4, -1, 2, 0, api.OK},
		{0, 1, -1, most, 1, api.OK},
		{0, 1, 1, most, -1, api.OK},
		{most, most, 1, 1, 0, api.OK},
		{most, most - 1, most - 1, most - 2, -1, api.OK},
		{most - 1, most, most - 2, most - 1, 1, api.OK},
		{most, 1, most - 1, 1, 1, api.OK},
		{most, 1, least, 1, 1, api.OK},
		{most, 1, 1, most, 1, api.OK},
		{1, most, most, 1, -1, api.OK},
		{least, 1, least, 1, 0, api.OK},
		{least, 1, least, 2, -1, api.OK},
		{least, 1, least + 1, 1, -1, api.OK},
		{least, most, -1, 1, -1, api.OK},
		{-1, 1, least, most, 1, api.OK},
		{1, 0, 1, 1, 0, api.ErrArg},
		{1, 1, 1, 0, 0, api.ErrArg},
		{0, 0, 0, 0, 0, api.ErrArg},
		{1, -1, 2, 1, 0, api.ErrArg},
		{2, 1, 1, -1, 0, api.ErrArg},
		{2, -1, 1, -1, 0, api.ErrArg},
		{1, least, 2, 1, 0, api.ErrArg},
		{2, 1, 1, least, 0, api.ErrArg},
	} {
		if way, e := Cmp(x.a, x.b, x.c, x.d); way != x.way || e != x.e {
			t.Errorf("%d: Cmp(%d, %d, %d, %d): %d, error %d", i, x.a, x.b, x.c, x.d, way, e)
		}
	}
}

// TestCmpOfAll holds Cmp against fractions without a bound.
func TestCmpOfAll(t *testing.T) {
	fours(func(a, b, c, d int64) {
		want, f := 0, api.ErrArg
		if b > 0 && d > 0 {
			want, f = big.NewRat(a, b).Cmp(big.NewRat(c, d)), api.OK
		}
		if way, e := Cmp(a, b, c, d); way != want || e != f {
			t.Errorf("Cmp(%d, %d, %d, %d): %d, error %d, and not %d, error %d", a, b, c, d, way, e, want, f)
		}
	})
}

func TestGap(t *testing.T) {
	for i, x := range []struct {
		a, b, c, d   int64
		above, below int64
		e            api.Errno
	}{
		{3, 4, 2, 3, 1, 12, api.OK},
		{2, 3, 3, 4, 1, 12, api.OK},
		{-1, 2, 1, 3, 5, 6, api.OK},
		{1, 3, -1, 2, 5, 6, api.OK},
		{-1, 2, -1, 3, 1, 6, api.OK},
		{1, 2, 2, 4, 0, 8, api.OK},
		{2, 4, 6, 8, 8, 32, api.OK},
		{0, 5, 0, 7, 0, 35, api.OK},
		{5, 1, 0, 1, 5, 1, api.OK},
		{most, 1, 0, 1, most, 1, api.OK},
		{0, 1, most, 1, most, 1, api.OK},
		{most, 1, most, 1, 0, 1, api.OK},
		{least, 1, least, 1, 0, 1, api.OK},
		{least, 1, -1, 1, most, 1, api.OK},
		{-1, 1, least, 1, most, 1, api.OK},
		{0, most, 0, 1, 0, most, api.OK},
		{0, 1, 0, most, 0, most, api.OK},
		{1, most, 1, 1, most - 1, most, api.OK},
		{0, root, 0, root, 0, root * root, api.OK},
		// a times d
		{most, 1, 0, 2, 0, 0, api.ErrLarge},
		{least, 1, -1, 2, 0, 0, api.ErrLarge},
		// c times b
		{0, 2, most, 1, 0, 0, api.ErrLarge},
		{-1, 2, least, 1, 0, 0, api.ErrLarge},
		// both, though they are the same
		{most, 2, most, 2, 0, 0, api.ErrLarge},
		// their difference
		{most, 1, -1, 1, 0, 0, api.ErrLarge},
		{-1, 1, most, 1, 0, 0, api.ErrLarge},
		{least, 1, 0, 1, 0, 0, api.ErrLarge},
		{0, 1, least, 1, 0, 0, api.ErrLarge},
		{least, 1, most, 1, 0, 0, api.ErrLarge},
		{most, 1, least, 1, 0, 0, api.ErrLarge},
		// b times d
		{1, most, 1, 2, 0, 0, api.ErrLarge},
		{0, most, 0, 2, 0, 0, api.ErrLarge},
		{0, 1 << 32, 0, 1 << 31, 0, 0, api.ErrLarge},
		{0, 1 << 32, 0, 1 << 32, 0, 0, api.ErrLarge},
		{0, root + 1, 0, root + 1, 0, 0, api.ErrLarge},
		{0, most, 0, most, 0, 0, api.ErrLarge},
		// ErrArg comes first
		{1, 0, 1, 1, 0, 0, api.ErrArg},
		{1, 1, 1, 0, 0, 0, api.ErrArg},
		{1, -1, 1, 1, 0, 0, api.ErrArg},
		{1, 1, 1, -1, 0, 0, api.ErrArg},
		{most, 0, most, most, 0, 0, api.ErrArg},
		{most, most, most, 0, 0, 0, api.ErrArg},
		{most, least, least, most, 0, 0, api.ErrArg},
		{least, least, least, least, 0, 0, api.ErrArg},
	} {
		if above, below, e := Gap(x.a, x.b, x.c, x.d); above != x.above || below != x.below || e != x.e {
			t.Errorf("%d: Gap(%d, %d, %d, %d): %d by %d, error %d", i, x.a, x.b, x.c, x.d, above, below, e)
		}
	}
}

// TestGapOfAll holds Gap against the same without a bound.
func TestGapOfAll(t *testing.T) {
	fours(func(a, b, c, d int64) {
		above, below, f := gapOf(a, b, c, d)
		if n, m, e := Gap(a, b, c, d); n != above || m != below || e != f {
			t.Errorf("Gap(%d, %d, %d, %d): %d by %d, error %d, and not %d by %d, error %d", a, b, c, d, n, m, e, above, below, f)
		}
	})
}

func gapOf(a, b, c, d int64) (int64, int64, api.Errno) {
	if b < 1 || d < 1 {
		return 0, 0, api.ErrArg
	}
	left, right, below := product(a, d), product(c, b), product(b, d)
	above := new(big.Int).Sub(left, right)
	above.Abs(above)
	for _, x := range []*big.Int{left, right, above, below} {
		if !x.IsInt64() {
			return 0, 0, api.ErrLarge
		}
	}
	return above.Int64(), below.Int64(), api.OK
}

// P2.4

// TestTakenAway takes away what was added, and adds what was taken away.
func TestTakenAway(t *testing.T) {
	for _, a := range numbers {
		for _, b := range numbers {
			if sum, e := Add(a, b); e == api.OK {
				if n, e := Sub(sum, b); n != a || e != api.OK {
					t.Errorf("%d and %d, less %d: %d, error %d", a, b, b, n, e)
				}
			}
			if less, e := Sub(a, b); e == api.OK {
				if n, e := Add(less, b); n != a || e != api.OK {
					t.Errorf("%d less %d, and %d: %d, error %d", a, b, b, n, e)
				}
			}
		}
	}
}

// TestNoMore divides a number by another one, and multiplies it again: that is no more than it, and less than another one short of it.
func TestNoMore(t *testing.T) {
	for _, a := range numbers {
		for _, c := range numbers {
			if a < 0 || c < 1 {
				continue
			}
			n, e := MulDiv(a, 1, c)
			back, e2 := Mul(n, c)
			if e != api.OK || e2 != api.OK || back > a || a-back >= c {
				t.Errorf("%d by %d: %d, error %d; times it: %d, error %d", a, c, n, e, back, e2)
			}
		}
	}
}

// TestBothWays holds two fractions the other way around, and their gap against how they compare.
func TestBothWays(t *testing.T) {
	fours(func(a, b, c, d int64) {
		way, e := Cmp(a, b, c, d)
		if back, e2 := Cmp(c, d, a, b); back != -way || e2 != e {
			t.Errorf("Cmp(%d, %d, %d, %d): %d, and the other way around %d", a, b, c, d, way, back)
		}
		above, below, e := Gap(a, b, c, d)
		if above2, below2, e2 := Gap(c, d, a, b); above2 != above || below2 != below || e2 != e {
			t.Errorf("Gap(%d, %d, %d, %d): %d by %d, and the other way around %d by %d", a, b, c, d, above, below, above2, below2)
		}
		if e == api.OK && (above < 0 || below < 1 || (above == 0) != (way == 0)) {
			t.Errorf("Gap(%d, %d, %d, %d): %d by %d, and they compare as %d", a, b, c, d, above, below, way)
		}
	})
}
