package words

import (
	"bytes"
	"math"
	"testing"
)

// The tests of this file are P1.1's, and, of its calls, the rules R1 to R5's.

func TestGet(t *testing.T) {
	b := []byte{0x80, 1, 2, 3, 0xff, 0xfe, 0xfd, 0xfc, 7}
	for _, c := range []struct {
		b    []byte
		at   int
		want uint32
		ok   bool
	}{
		{b, 0, 0x80010203, true},
		{b, 1, 0x010203ff, true},
		{b, 5, 0xfefdfc07, true},
		{b[:4], 0, 0x80010203, true},
		{[]byte{0, 0, 0, 0}, 0, 0, true},
		{b, 6, 0, false},
		{b, 8, 0, false},
		{b, 9, 0, false},
		{b, 10, 0, false},
		{b, -1, 0, false},
		{b, -4, 0, false},
		{b, math.MinInt, 0, false},
		{b, math.MaxInt, 0, false},
		{b, math.MaxInt - 3, 0, false},
		{b[:3], 0, 0, false},
		{b[:0], 0, 0, false},
		{nil, 0, 0, false},
	} {
		if v, ok := Get(c.b, c.at); v != c.want || ok != c.ok {
			t.Errorf("Get(%v, %d) = %#x, %v", c.b, c.at, v, ok)
		}
	}
}

func TestGet64(t *testing.T) {
	b := []byte{0x80, 1, 2, 3, 0xff, 0xfe, 0xfd, 0xfc, 7}
	for _, c := range []struct {
		b    []byte
		at   int
		want uint64
		ok   bool
	}{
		{b, 0, 0x80010203fffefdfc, true},
		{b, 1, 0x010203fffefdfc07, true},
		{b[:8], 0, 0x80010203fffefdfc, true},
		{b, 2, 0, false},
		{b, 5, 0, false},
		{b, 9, 0, false},
		{b, -1, 0, false},
		{b, -8, 0, false},
		{b, math.MinInt, 0, false},
		{b, math.MaxInt, 0, false},
		{b, math.MaxInt - 7, 0, false},
		{b[:7], 0, 0, false},
		{nil, 0, 0, false},
	} {
		if v, ok := Get64(c.b, c.at); v != c.want || ok != c.ok {
			t.Errorf("Get64(%v, %d) = %#x, %v", c.b, c.at, v, ok)
		}
	}
}

func TestPut(t *testing.T) {
	for _, c := range []struct {
		b    []byte
		v    uint32
		want []byte
	}{
		{nil, 258, []byte{0, 0, 1, 2}},
		{[]byte{}, 0, []byte{0, 0, 0, 0}},
		{nil, 0x80abcdef, []byte{0x80, 0xab, 0xcd, 0xef}},
		{[]byte{9, 8, 7}, math.MaxUint32, []byte{9, 8, 7, 255, 255, 255, 255}},
	} {
		if x := Put(c.b, c.v); !bytes.Equal(x, c.want) {
			t.Errorf("Put(%v, %#x) = %v", c.b, c.v, x)
		}
	}
}

func TestPut64(t *testing.T) {
	for _, c := range []struct {
		b    []byte
		v    uint64
		want []byte
	}{
		{nil, 258, []byte{0, 0, 0, 0, 0, 0, 1, 2}},
		{[]byte{}, 0, []byte{0, 0, 0, 0, 0, 0, 0, 0}},
		{[]byte{9}, 0x8123456789abcdef, []byte{9, 0x81, 0x23, 0x45, 0x67, 0x89, 0xab, 0xcd, 0xef}},
		{nil, 1 << 32, []byte{0, 0, 0, 1, 0, 0, 0, 0}},
	} {
		if x := Put64(c.b, c.v); !bytes.Equal(x, c.want) {
			t.Errorf("Put64(%v, %#x) = %v", c.b, c.v, x)
		}
	}
}

func TestPutIsGot(t *testing.T) {
	for _, v := range []uint64{0, 1, 255, 256, 1 << 31, math.MaxUint32, 1 << 32, 0x0123456789abcdef, math.MaxUint64} {
		b := Put64(Put([]byte{1, 2}, uint32(v)), v)
		if x, ok := Get(b, 2); x != uint32(v) || !ok {
			t.Errorf("Get of Put(%#x) = %#x, %v", v, x, ok)
		}
		if x, ok := Get64(b, 6); x != v || !ok {
			t.Errorf("Get64 of Put64(%#x) = %#x, %v", v, x, ok)
		}
	}
}

func TestPad(t *testing.T) {
	for _, c := range []struct{ n, want int }{
		{0, 0}, {1, 3}, {2, 2}, {3, 1}, {4, 0}, {5, 3}, {8, 0}, {31, 1}, {1 << 20, 0}, {1<<20 + 1, 3},
		{math.MaxInt, 1}, {math.MaxInt - 3, 0}, {math.MaxInt - 2, 3},
		{-1, 0}, {-2, 0}, {-3, 0}, {-4, 0}, {-5, 0}, {math.MinInt, 0}, {math.MinInt + 1, 0},
	} {
		if x := Pad(c.n); x != c.want {
			t.Errorf("Pad(%d) = %d", c.n, x)
		}
	}
}

func TestText(t *testing.T) {
	b := []byte("ab\x00\x00\xff\xc3\x00c")
	for _, c := range []struct {
		b    []byte
		at   int
		want string
		ok   bool
	}{
		{b, 0, "ab", true},
		{b, 1, "b", true},
		{b, 2, "", true},
		{b, 3, "", true},
		{b, 4, "\xff\xc3", true},
		{b, 6, "", true},
		{b[:7], 6, "", true},
		{b, 7, "", false},
		{b, 8, "", false},
		{b, 9, "", false},
		{b, -1, "", false},
		{b, math.MinInt, "", false},
		{b, math.MaxInt, "", false},
		{b[:2], 0, "", false},
		{b[:0], 0, "", false},
		{nil, 0, "", false},
	} {
		if s, ok := Text(c.b, c.at); s != c.want || ok != c.ok {
			t.Errorf("Text(%q, %d) = %q, %v", c.b, c.at, s, ok)
		}
	}
}

func TestCell(t *testing.T) {
	b := []byte{1, 2, 3, 4, 5, 6}
	for _, c := range []struct {
		b    []byte
		at   int
		want []byte
		ok   bool
	}{
		{b, 0, []byte{0x89, 0xab, 0xcd, 0xef, 5, 6}, true},
		{b, 1, []byte{1, 0x89, 0xab, 0xcd, 0xef, 6}, true},
		{b, 2, []byte{1, 2, 0x89, 0xab, 0xcd, 0xef}, true},
		{b[:4], 0, []byte{0x89, 0xab, 0xcd, 0xef}, true},
		{b, 3, nil, false},
		{b, 6, nil, false},
		{b, -1, nil, false},
		{b, math.MinInt, nil, false},
		{b, math.MaxInt, nil, false},
		{b, math.MaxInt - 3, nil, false},
		{b[:3], 0, nil, false},
		{nil, 0, nil, false},
	} {
		x, ok := Cell(c.b, c.at, 0x89abcdef)
		if !bytes.Equal(x, c.want) || ok != c.ok {
			t.Errorf("Cell(%v, %d) = %v, %v", c.b, c.at, x, ok)
		}
	}
	if !bytes.Equal(b, []byte{1, 2, 3, 4, 5, 6}) {
		t.Errorf("Cell changed what it was given: %v", b)
	}
}

// answers are what each call that answers bytes makes of b.
func answers(b []byte) map[string][]byte {
	c, _ := Cell(b, 0, 0x05060708)
	return map[string][]byte{"Put": Put(b, 1), "Put64": Put64(b, 1), "Cell": c}
}

func TestSpareRoomIsLeft(t *testing.T) {
	room := bytes.Repeat([]byte{9}, 64)
	answers(room[:4])
	if !bytes.Equal(room, bytes.Repeat([]byte{9}, 64)) {
		t.Errorf("what was handed in, or its spare room, is changed: %v", room)
	}
}

func TestAnswersAreNewMemory(t *testing.T) {
	room := bytes.Repeat([]byte{9}, 64)
	for name, x := range answers(room[:4]) {
		was := bytes.Clone(x)
		clear(room)
		if !bytes.Equal(x, was) {
			t.Errorf("%s: the answer changes with what was handed in", name)
		}
		for i := range room {
			room[i] = 9
		}
		clear(x[:cap(x)])
		if !bytes.Equal(room, bytes.Repeat([]byte{9}, 64)) {
			t.Errorf("%s: what was handed in changes with the answer, or its spare room", name)
		}
	}
}

func TestAnswersShareNothing(t *testing.T) {
	b := Put(nil, 1)
	x, y := Put(b, 2), Put(b, 3)
	if v, _ := Get(x, 4); v != 2 {
		t.Errorf("an answer changes with a later one: %d", v)
	}
	x[0], y[1] = 7, 7
	if v, _ := Get(b, 0); v != 1 {
		t.Errorf("an answer shares memory with a later one: %#x", v)
	}
}

func TestTextIsKeptByNobody(t *testing.T) {
	b := []byte("ab\x00")
	s, _ := Text(b, 0)
	b[0] = 'x'
	if s != "ab" {
		t.Errorf("the text changes with the bytes: %q", s)
	}
}
