package code

import (
	"bytes"
	"slices"
	"testing"

	"ravel/api"
)

// textOf is the text of programs, by the document's words alone.
func textOf(l [][]api.Instr) []byte {
	b := []byte{byte(len(l))}
	for _, p := range l {
		b = append(b, byte(len(p)))
		for _, x := range p {
			b = append(b, byte(x.Op), byte(x.A/256), byte(x.A%256), byte(x.B))
		}
	}
	return b
}

// some are programs of all kinds, and of numbers of one and two bytes.
func some() [][]api.Instr {
	return [][]api.Instr{
		{works(100), in(api.SpawnI, 2, 3), yields, in(api.SleepI, 1000, 0), in(api.IoI, 15, 0)},
		{in(api.JoinI, 3, 0)},
		{in(api.TakeI, 7, 0), in(api.GiveI, 0, 0), in(api.SleepI, 256, 0), in(api.SleepI, 255, 0), exits, in(api.SpawnI, 0, 1)},
	}
}

// readAs is what Read ought to answer, by cutting the text piece by piece.
func readAs(b []byte) ([][]api.Instr, bool) {
	if len(b) == 0 {
		return nil, false
	}
	l := make([][]api.Instr, b[0])
	at := 1
	for i := range l {
		if at >= len(b) {
			return nil, false
		}
		n := int(b[at])
		at++
		for range n {
			if at+4 > len(b) {
				return nil, false
			}
			l[i] = append(l[i], in(int(b[at]), 256*int(b[at+1])+int(b[at+2]), int(b[at+3])))
			at += 4
		}
	}
	return l, at == len(b) && allMayBe(l)
}

// holdRead holds what Read answers of a text against the same by cutting.
func holdRead(t *testing.T, b []byte) {
	t.Helper()
	was := bytes.Clone(b)
	l, e := Read(b)
	want, is := readAs(b)
	switch {
	case is && (e != api.OK || unlike(l, want)):
		t.Errorf("%v: %v, error %d, and not %v", b, l, e, want)
	case !is && (e != api.ErrForm || len(l) != 0):
		t.Errorf("%v: %v, error %d", b, l, e)
	}
	if !bytes.Equal(b, was) {
		t.Errorf("changed what was handed in: %v, and not %v", b, was)
	}
}

// P4.3

func TestWrite(t *testing.T) {
	for i, x := range []struct {
		l [][]api.Instr
		b []byte
	}{
		{[][]api.Instr{{yields}}, []byte{1, 1, 3, 0, 0, 0}},
		{[][]api.Instr{{works(100)}}, []byte{1, 1, 1, 0, 100, 0}},
		{[][]api.Instr{{in(api.SleepI, 255, 0)}}, []byte{1, 1, 4, 0, 255, 0}},
		{[][]api.Instr{{in(api.SleepI, 256, 0)}}, []byte{1, 1, 4, 1, 0, 0}},
		{[][]api.Instr{{in(api.SleepI, 1000, 0)}}, []byte{1, 1, 4, 3, 232, 0}},
		{[][]api.Instr{{in(api.SpawnI, 1, 3)}, {exits, exits}}, []byte{2, 1, 2, 0, 1, 3, 2, 9, 0, 0, 0, 9, 0, 0, 0}},
		{some(), []byte{3,
			5, 1, 0, 100, 0, 2, 0, 2, 3, 3, 0, 0, 0, 4, 3, 232, 0, 5, 0, 15, 0,
			1, 6, 0, 3, 0,
			6, 7, 0, 7, 0, 8, 0, 0, 0, 4, 1, 0, 0, 4, 0, 255, 0, 9, 0, 0, 0, 2, 0, 0, 1,
		}},
	} {
		l := copied(x.l)
		if b, e := Write(l); !bytes.Equal(b, x.b) || e != api.OK {
			t.Errorf("%d: %v, error %d, and not %v", i, b, e, x.b)
		}
		if unlike(l, x.l) {
			t.Errorf("%d: changed what was handed in: %v", i, l)
		}
		if l, e := Read(x.b); unlike(l, x.l) || e != api.OK {
			t.Errorf("%d: read as %v, error %d", i, l, e)
		}
	}
}

func TestWriteOfWhatMayNotBe(t *testing.T) {
	for i, l := range badLists() {
		if b, e := Write(l); len(b) != 0 || e != api.ErrArg {
			t.Errorf("%d: %v, error %d", i, b, e)
		}
	}
}

// TestTheLongest is of as many programs, of as many instructions, as there may be.
func TestTheLongest(t *testing.T) {
	l := slices.Repeat([][]api.Instr{times(in(api.SpawnI, 15, 3), 32)}, 16)
	b, e := Write(l)
	if e != api.OK || !bytes.Equal(b, textOf(l)) || len(b) != 1+16*129 {
		t.Fatalf("%d bytes, error %d", len(b), e)
	}
	if got, e := Read(b); e != api.OK || unlike(got, l) {
		t.Errorf("read as %d programs, error %d", len(got), e)
	}
}

func TestReadOfNoText(t *testing.T) {
	for i, b := range [][]byte{
		nil, {}, {0}, {1}, {1, 0}, {2}, {16}, {255}, {0, 1, 3, 0, 0, 0},
		// Too short, and too long.
		{1, 1}, {1, 1, 3}, {1, 1, 3, 0}, {1, 1, 3, 0, 0}, {1, 1, 3, 0, 0, 0, 0}, {1, 1, 3, 0, 0, 0, 3, 0, 0, 0},
		{1, 2, 3, 0, 0, 0}, {1, 0, 3, 0, 0, 0}, {2, 1, 3, 0, 0, 0}, {2, 1, 3, 0, 0, 0, 0}, {2, 1, 3, 0, 0, 0, 1}, {2, 0, 1, 3, 0, 0, 0},
		{1, 1, 3, 0, 0, 0, 1, 3, 0, 0, 0},
		// Instructions that may not be.
		{1, 1, 0, 0, 0, 0}, {1, 1, 10, 0, 0, 0}, {1, 1, 255, 0, 0, 0}, {1, 1, 3, 0, 1, 0}, {1, 1, 3, 1, 0, 0}, {1, 1, 3, 0, 0, 1},
		{1, 1, 1, 0, 0, 0}, {1, 1, 1, 0, 101, 0}, {1, 1, 1, 1, 100, 0}, {1, 1, 4, 3, 233, 0}, {1, 1, 4, 255, 255, 0}, {1, 1, 2, 0, 0, 4},
		// A spawn of one that is not there.
		{1, 1, 2, 0, 1, 0}, {2, 1, 2, 0, 2, 0, 1, 3, 0, 0, 0}, {1, 2, 9, 0, 0, 0, 2, 0, 1, 0},
	} {
		if l, e := Read(b); len(l) != 0 || e != api.ErrForm {
			t.Errorf("%d: %v, error %d", i, l, e)
		}
	}
}

// TestReadOfTooMany is of texts that are laid as they ought to be, of more than there may be.
func TestReadOfTooMany(t *testing.T) {
	for i, l := range [][][]api.Instr{
		manyProgs(17), manyProgs(255), {times(yields, 33)}, {{yields}, times(yields, 255)},
		slices.Repeat([][]api.Instr{times(yields, 255)}, 255),
		// 256 of them are written as none, and 257 as one.
		manyProgs(256), manyProgs(257), {times(yields, 256)}, {times(yields, 257)},
	} {
		if l, e := Read(textOf(l)); len(l) != 0 || e != api.ErrForm {
			t.Errorf("%d: %d programs, error %d", i, len(l), e)
		}
	}
	if l, e := Read(make([]byte, 1<<20)); len(l) != 0 || e != api.ErrForm {
		t.Errorf("zeros: %d programs, error %d", len(l), e)
	}
	if l, e := Read(bytes.Repeat([]byte{255}, 1<<20)); len(l) != 0 || e != api.ErrForm {
		t.Errorf("octets of ones: %d programs, error %d", len(l), e)
	}
}

// TestReadOfEachByte puts each byte at each place of a text, cuts it at each place, and puts one more in.
func TestReadOfEachByte(t *testing.T) {
	text := textOf(some())
	for at := range len(text) + 1 {
		holdRead(t, text[:at])
		holdRead(t, text[at:])
		for x := range 256 {
			holdRead(t, slices.Concat(text[:at], []byte{byte(x)}, text[at:]))
			if at < len(text) {
				holdRead(t, slices.Concat(text[:at], []byte{byte(x)}, text[at+1:]))
			}
		}
	}
}

// TestReadOfSmallTexts goes through many short texts of small bytes.
func TestReadOfSmallTexts(t *testing.T) {
	next := dealer(3)
	for range 200000 {
		b := make([]byte, next(16))
		for i := range b {
			b[i] = byte(next(4))
		}
		holdRead(t, b)
	}
}

// TestToldIsNew writes into what was told, and into what was handed in: neither may be seen in the other, nor in a part of itself.
func TestToldIsNew(t *testing.T) {
	text := textOf(some())
	l, _ := Read(text)
	for i := range l {
		full := l[i][:cap(l[i])]
		for k := range full {
			full[k] = in(77, i, k)
		}
		want := copied(some())
		for done := range i + 1 {
			for k := range want[done] {
				want[done][k] = in(77, done, k)
			}
		}
		if unlike(l, want) {
			t.Fatalf("program %d shines through: %v", i, l)
		}
	}
	if !bytes.Equal(text, textOf(some())) {
		t.Errorf("what was told is what was handed in: %v", text)
	}
	l, _ = Read(text)
	clear(text)
	if unlike(l, some()) {
		t.Errorf("what was handed in is what was told: %v", l)
	}
	from := some()
	b, _ := Write(from)
	from[0][0] = yields
	if !bytes.Equal(b, textOf(some())) {
		t.Errorf("what was handed in shines through: %v", b)
	}
	clear(b)
	if again, _ := Write(some()); !bytes.Equal(again, textOf(some())) {
		t.Errorf("what was told before shines through: %v", again)
	}
}

// P4.4

func TestWrittenIsRead(t *testing.T) {
	next := dealer(4)
	for k := range 4000 {
		l := mixed(next, k%2 == 0)
		b, e := Write(l)
		if e != api.OK || !bytes.Equal(b, textOf(l)) {
			t.Fatalf("%v: %v, error %d", l, b, e)
		}
		if got, e := Read(b); e != api.OK || unlike(got, l) || !Same(got, l) {
			t.Fatalf("%v: read as %v, error %d", l, got, e)
		}
	}
}
