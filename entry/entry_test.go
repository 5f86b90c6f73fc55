package entry

import (
	"bytes"
	"math"
	"slices"
	"testing"

	"ravel/api"
)

// mostEntries is how many entries a script has at the most, by the document.
const mostEntries = 65536

func one(kind, a, b int) api.Entry { return api.Entry{Kind: kind, A: a, B: b} }

// mayBe tells by the document's words whether an entry may be.
func mayBe(x api.Entry) bool {
	if x.Kind < 0 || x.Kind > 7 || x.A < 0 || x.A > 255 || x.B < 0 || x.B > 255 {
		return false
	}
	switch x.Kind {
	case api.SpawnS, api.DrawS:
		return true
	case api.DownS:
		return x.A == 0 && x.B == 0
	}
	return x.B == 0
}

// edges are numbers at which an entry's bounds are, beside them, and far off.
var edges = []int{
	math.MinInt, math.MinInt + 1, math.MinInt32, -65536, -256, -255, -7, -1, 0, 1, 2, 3, 4, 5, 6, 7, 8, 9, 127, 128, 254, 255, 256, 257, 258, 260, 511, 512,
	65535, 65536, 65537, 65540, 1 << 31, 1 << 32, 1<<32 + 1, 1<<32 + 4, 1 << 62, math.MaxInt,
}

// allEntries are all entries of numbers at edges.
func allEntries() []api.Entry {
	var l []api.Entry
	for _, kind := range edges {
		for _, a := range edges {
			for _, b := range edges {
				l = append(l, one(kind, a, b))
			}
		}
	}
	return l
}

// goodEntries are those of them that may be, badEntries those that may not.
func goodEntries() []api.Entry {
	return slices.DeleteFunc(allEntries(), func(x api.Entry) bool { return !mayBe(x) })
}

func badEntries() []api.Entry { return slices.DeleteFunc(allEntries(), mayBe) }

// text is an entry's text, by the document's words.
func text(l ...api.Entry) []byte {
	var b []byte
	for _, x := range l {
		b = append(b, byte(x.Kind), byte(x.A), byte(x.B))
	}
	return b
}

// writes holds Write, Check and Read against a script that may be.
func writes(t *testing.T, name any, l []api.Entry) {
	t.Helper()
	if e := Check(l); e != api.OK {
		t.Fatalf("%v: Check: error %d", name, e)
	}
	b, e := Write(l)
	if !bytes.Equal(b, text(l...)) || e != api.OK {
		t.Fatalf("%v: Write: error %d, or another text", name, e)
	}
	again, e := Read(b)
	if !slices.Equal(again, l) || e != api.OK {
		t.Fatalf("%v: Read: error %d, or other entries", name, e)
	}
}

// refused holds that a script may not be, nor be written.
func refused(t *testing.T, name any, l []api.Entry, want api.Errno) {
	t.Helper()
	if e := Check(l); e != want {
		t.Fatalf("%v: Check: error %d, and not %d", name, e, want)
	}
	if b, e := Write(l); len(b) != 0 || e != want {
		t.Fatalf("%v: Write: %d bytes, error %d, and not %d", name, len(b), e, want)
	}
}

// unread holds that a text is refused.
func unread(t *testing.T, name any, b []byte, want api.Errno) {
	t.Helper()
	if l, e := Read(b); len(l) != 0 || e != want {
		t.Fatalf("%v: Read: %d entries, error %d, and not %d", name, len(l), e, want)
	}
}

// P19.2

func TestEachEntry(t *testing.T) {
	for _, x := range goodEntries() {
		writes(t, x, []api.Entry{x})
		writes(t, x, []api.Entry{one(api.DownS, 0, 0), x, x})
	}
	for _, x := range badEntries() {
		refused(t, x, []api.Entry{x}, api.ErrArg)
	}
}

// TestEachNumber goes through all numbers of a byte, and one beyond, of each kind.
func TestEachNumber(t *testing.T) {
	for kind := -1; kind <= 8; kind++ {
		for a := -1; a <= 256; a++ {
			for b := -1; b <= 256; b++ {
				x, want := one(kind, a, b), api.OK
				if !mayBe(x) {
					want = api.ErrArg
				}
				if e := Check([]api.Entry{x}); e != want {
					t.Fatalf("%v: error %d, and not %d", x, e, want)
				}
			}
		}
	}
}

// TestEachText reads all texts of three bytes, of all kinds at edges.
func TestEachText(t *testing.T) {
	for _, kind := range []int{0, 1, 2, 3, 4, 5, 6, 7, 8, 9, 15, 16, 127, 128, 129, 255} {
		for a := range 256 {
			for b := range 256 {
				x := one(kind, a, b)
				l, e := Read([]byte{byte(kind), byte(a), byte(b)})
				if mayBe(x) && (e != api.OK || len(l) != 1 || l[0] != x) || !mayBe(x) && (e != api.ErrForm || len(l) != 0) {
					t.Fatalf("%v: %v, error %d", x, l, e)
				}
			}
		}
	}
}

func TestNothing(t *testing.T) {
	for _, l := range [][]api.Entry{nil, {}} {
		if b, e := Write(l); len(b) != 0 || e != api.OK || Check(l) != api.OK {
			t.Errorf("Write: %v, error %d", b, e)
		}
	}
	for _, b := range [][]byte{nil, {}} {
		if l, e := Read(b); len(l) != 0 || e != api.OK {
			t.Errorf("Read: %v, error %d", l, e)
		}
	}
}

// TestHowLong goes to the edge of how many entries there may be, and beyond: too many are told of first.
func TestHowLong(t *testing.T) {
	step := one(api.StepS, 5, 0)
	writes(t, "most", slices.Repeat([]api.Entry{step}, mostEntries))
	writes(t, "one less", slices.Repeat([]api.Entry{step}, mostEntries-1))
	for _, n := range []int{mostEntries + 1, mostEntries + 2, 2 * mostEntries, 1 << 20} {
		for _, x := range []api.Entry{step, one(9, 0, 0), one(0, -1, 0)} {
			refused(t, n, slices.Repeat([]api.Entry{x}, n), api.ErrLong)
		}
	}
	refused(t, "most, and the last one may not be", append(slices.Repeat([]api.Entry{step}, mostEntries-1), one(0, 0, 1)), api.ErrArg)
	refused(t, "one more, and that may not be", append(slices.Repeat([]api.Entry{step}, mostEntries), one(0, 0, 1)), api.ErrLong)
}

// TestHowLongATextIs is the same of texts.
func TestHowLongATextIs(t *testing.T) {
	for _, n := range []int{1, 2, 3, 4, 6, 1 << 10, 1 << 20} {
		for _, fill := range []byte{0, 8, 255} {
			unread(t, n, slices.Repeat([]byte{fill}, 3*mostEntries+n), api.ErrLong)
		}
	}
	for _, n := range []int{1, 2, 4, 5, 100} {
		unread(t, n, make([]byte, 3*mostEntries-n), api.ErrForm)
	}
	unread(t, "all wrong", slices.Repeat([]byte{8}, 3*mostEntries), api.ErrForm)
	if l, e := Read(make([]byte, 3*mostEntries)); len(l) != mostEntries || e != api.OK {
		t.Errorf("%d entries, error %d", len(l), e)
	}
}

// TestOneThatMayNotBe puts one at each place of others.
func TestOneThatMayNotBe(t *testing.T) {
	for n := 1; n <= 9; n++ {
		for at := range n {
			for _, bad := range []api.Entry{one(-1, 0, 0), one(8, 0, 0), one(0, 256, 0), one(api.TickS, 1, 1), one(api.DownS, 1, 0), one(api.SpawnS, 0, 256), one(api.DrawS, -1, 0)} {
				l := slices.Repeat([]api.Entry{one(api.DrawS, 9, 9)}, n)
				l[at] = bad
				refused(t, l, l, api.ErrArg)
			}
			for _, bad := range []api.Entry{one(8, 0, 0), one(255, 0, 0), one(0, 5, 1), one(api.TickS, 0, 255), one(api.FireS, 1, 1), one(api.OpenS, 1, 1), one(api.ShutS, 1, 1), one(api.DownS, 1, 0), one(api.DownS, 0, 1)} {
				l := slices.Repeat([]api.Entry{one(api.SpawnS, 9, 9)}, n)
				l[at] = bad
				unread(t, l, text(l...), api.ErrForm)
			}
		}
	}
}

// TestEachPiece reads each beginning of a text: those that end between entries are texts too.
func TestEachPiece(t *testing.T) {
	l := []api.Entry{one(0, 3, 0), one(1, 1, 2), one(2, 255, 0), one(3, 15, 0), one(4, 255, 7), one(5, 2, 0), one(6, 2, 0), one(7, 0, 0)}
	writes(t, "all kinds", l)
	b := text(l...)
	for n := range len(b) + 1 {
		if n%3 != 0 {
			unread(t, n, b[:n:n], api.ErrForm)
			unread(t, n, b[:n], api.ErrForm)
			continue
		}
		if told, e := Read(b[:n]); !slices.Equal(told, l[:n/3]) || e != api.OK {
			t.Errorf("%d: %v, error %d", n, told, e)
		}
	}
	// What is too short is no text, whatever it begins with.
	for _, b := range [][]byte{{0}, {7}, {8}, {0, 0}, {7, 0}, {255, 255}, {0, 0, 0, 0}, {7, 0, 0, 7, 0}} {
		unread(t, b, b, api.ErrForm)
	}
}

// P19.3

func TestOnly(t *testing.T) {
	// These need not be entries that may be.
	l := []api.Entry{one(0, 1, 0), one(1, 2, 3), one(0, 4, 0), one(9, -1, 5), one(-1, 0, 0), one(0, 1, 9), one(1, 2, 3), one(7, 0, 0), one(9, 300, 0)}
	for _, kind := range append([]int{10, -2}, edges...) {
		var want []api.Entry
		for i := range l {
			if l[i].Kind == kind {
				want = append(want, l[i])
			}
		}
		if got := Only(l, kind); !slices.Equal(got, want) {
			t.Errorf("%d: %v, and not %v", kind, got, want)
		}
		if got := Only(nil, kind); len(got) != 0 {
			t.Errorf("%d of none: %v", kind, got)
		}
	}
	long := slices.Repeat(l, mostEntries)
	if got := Only(long, 1); len(got) != 2*mostEntries || got[7] != one(1, 2, 3) {
		t.Errorf("%d of many", len(got))
	}
}

// TestWhoseIsWhat holds that nothing handed in is changed or kept, and nothing told is shared.
func TestWhoseIsWhat(t *testing.T) {
	room := one(77, 77, 77)
	l := append(make([]api.Entry, 0, 9), one(0, 1, 0), one(1, 2, 3), one(0, 0, 0))
	was := slices.Clone(l)
	behind := l[:9]
	for i := 3; i < 9; i++ {
		behind[i] = room
	}
	first, _ := Write(l)
	again, _ := Write(l)
	zeros, more := Only(l, 0), Only(l, 0)
	Check(l)
	Fair(l, 2, 2)
	if !slices.Equal(l, was) || slices.ContainsFunc(behind[3:], func(x api.Entry) bool { return x != room }) {
		t.Errorf("changed what was handed in: %v", behind)
	}
	first[0], zeros[0].A = 9, 9
	if again[0] != 0 || more[0].A != 1 || l[0] != was[0] {
		t.Error("what is told is shared")
	}
	l[2].A = 8
	if more[1].A != 0 {
		t.Error("what was handed in is kept")
	}
	b := text(was...)
	ones, _ := Read(b)
	others, _ := Read(b)
	ones[1].A = 9
	if !bytes.Equal(b, text(was...)) || !slices.Equal(others, was) {
		t.Error("what is read is shared")
	}
	clear(b)
	if !slices.Equal(others, was) {
		t.Error("the text is kept")
	}
}
