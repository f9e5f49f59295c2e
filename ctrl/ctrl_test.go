package ctrl

import (
	"math"
	"testing"

	"arboret/api"
)

// The tests of this file are P16.1's, and, of its calls, the rules R1 to R5's.

func expect(t *testing.T, c *Ctrl, offset uint64, want uint64) {
	t.Helper()
	if v, e := c.Load(offset, 4); v != want || e != api.OK {
		t.Errorf("Load(%d, 4) = %#x, %v, not %#x", offset, v, e, want)
	}
}

// expectAll asks all that a controller tells.
func expectAll(t *testing.T, c *Ctrl, lines, mask, next uint64) {
	t.Helper()
	expect(t, c, 0, lines)
	expect(t, c, 4, mask)
	expect(t, c, 8, next)
	expect(t, c, 12, 0)
	if high := c.High(); high != (next != 0) {
		t.Errorf("High() = %v, with the next one %d", high, next)
	}
}

func set(t *testing.T, c *Ctrl, line int, high bool) {
	t.Helper()
	if e := c.Set(line, high); e != api.OK {
		t.Errorf("Set(%d, %v) = %v", line, high, e)
	}
}

func store(t *testing.T, c *Ctrl, offset, v uint64) {
	t.Helper()
	if e := c.Store(offset, 4, v); e != api.OK {
		t.Errorf("Store(%d, 4, %#x) = %v", offset, v, e)
	}
}

// busy is a controller of which each cell that has a name says something of its own.
func busy(t *testing.T) *Ctrl {
	t.Helper()
	c := new(Ctrl)
	set(t, c, 1, true)
	set(t, c, 4, true)
	set(t, c, 31, true)
	store(t, c, 4, 0x80000030)
	expectAll(t, c, 0x80000012, 0x80000030, 5)
	return c
}

func TestBytes(t *testing.T) {
	if Bytes != 16 {
		t.Error(Bytes)
	}
}

func TestZeroValue(t *testing.T) {
	var c Ctrl
	expectAll(t, &c, 0, 0, 0)
}

func TestExample(t *testing.T) {
	var c Ctrl
	set(t, &c, 3, true)
	store(t, &c, 4, 8)
	expectAll(t, &c, 8, 8, 4)
}

func TestEachLine(t *testing.T) {
	for line := range 32 {
		var c Ctrl
		bit := uint64(1) << line
		set(t, &c, line, true)
		expectAll(t, &c, bit, 0, 0)
		store(t, &c, 4, bit)
		expectAll(t, &c, bit, bit, uint64(line)+1)
		// The mask hides just its own line.
		store(t, &c, 4, ^bit)
		expectAll(t, &c, bit, ^bit&math.MaxUint32, 0)
		store(t, &c, 4, math.MaxUint32)
		expectAll(t, &c, bit, math.MaxUint32, uint64(line)+1)
		set(t, &c, line, false)
		expectAll(t, &c, 0, math.MaxUint32, 0)
	}
}

func TestSetIsHowItStands(t *testing.T) {
	var c Ctrl
	store(t, &c, 4, math.MaxUint32)
	set(t, &c, 7, false)
	expectAll(t, &c, 0, math.MaxUint32, 0)
	// High twice is high once.
	set(t, &c, 7, true)
	set(t, &c, 7, true)
	expectAll(t, &c, 1<<7, math.MaxUint32, 8)
	set(t, &c, 9, true)
	set(t, &c, 7, false)
	expectAll(t, &c, 1<<9, math.MaxUint32, 10)
	set(t, &c, 7, false)
	expectAll(t, &c, 1<<9, math.MaxUint32, 10)
}

func TestNextIsTheLeast(t *testing.T) {
	var c Ctrl
	store(t, &c, 4, math.MaxUint32)
	for line := 31; line >= 0; line-- {
		set(t, &c, line, true)
		expectAll(t, &c, uint64(math.MaxUint32<<line)&math.MaxUint32, math.MaxUint32, uint64(line)+1)
	}
	for line := range 31 {
		set(t, &c, line, false)
		expect(t, &c, 8, uint64(line)+2)
	}
}

func TestMaskHidesLessLines(t *testing.T) {
	var c Ctrl
	for line := range 32 {
		set(t, &c, line, true)
	}
	expectAll(t, &c, math.MaxUint32, 0, 0)
	for line := range 32 {
		mask := uint64(math.MaxUint32<<line) & math.MaxUint32
		store(t, &c, 4, mask)
		expectAll(t, &c, math.MaxUint32, mask, uint64(line)+1)
	}
}

func TestReadingChangesNothing(t *testing.T) {
	c := busy(t)
	for range 3 {
		expectAll(t, c, 0x80000012, 0x80000030, 5)
	}
}

func TestSetOfNoLine(t *testing.T) {
	for _, line := range []int{-1, -31, -32, -64, 32, 33, 63, 64, 96, 1 << 32, 1<<32 + 1, math.MinInt, math.MinInt + 1, math.MaxInt} {
		for _, high := range []bool{true, false} {
			c := busy(t)
			if e := c.Set(line, high); e != api.ErrArg {
				t.Errorf("Set(%d, %v) = %v", line, high, e)
			}
			expectAll(t, c, 0x80000012, 0x80000030, 5)
		}
	}
}

func TestStoreOfTheMask(t *testing.T) {
	for _, v := range []struct{ in, mask, next uint64 }{
		{0, 0, 0},
		{1 << 1, 1 << 1, 2},
		{1<<32 | 1<<31, 1 << 31, 32},
		{1 << 32, 0, 0},
		{1 << 63, 0, 0},
		{math.MaxUint32, math.MaxUint32, 2},
		{math.MaxUint64, math.MaxUint32, 2},
		{0xdeadbeef00000010, 0x10, 5},
	} {
		c := busy(t)
		store(t, c, 4, v.in)
		expectAll(t, c, 0x80000012, v.mask, v.next)
	}
}

func TestStoreWhereNothingIsWritten(t *testing.T) {
	for _, offset := range []uint64{0, 8, 12} {
		for _, v := range []uint64{0, 1, 1 << 4, 1 << 31, math.MaxUint32, math.MaxUint64} {
			c := busy(t)
			store(t, c, offset, v)
			expectAll(t, c, 0x80000012, 0x80000030, 5)
		}
	}
}

func TestWrongAccess(t *testing.T) {
	for _, x := range []struct {
		offset uint64
		width  int
		want   api.Errno
	}{
		{16, 4, api.ErrDecode},
		{20, 4, api.ErrDecode},
		{16, 1, api.ErrDecode},
		{17, 4, api.ErrDecode},
		{17, 3, api.ErrDecode},
		{1<<32 + 4, 4, api.ErrDecode},
		{math.MaxUint64, 4, api.ErrDecode},
		{math.MaxUint64 - 11, 4, api.ErrDecode},
		{1, 4, api.ErrWidth},
		{2, 4, api.ErrWidth},
		{3, 4, api.ErrWidth},
		{5, 4, api.ErrWidth},
		{15, 4, api.ErrWidth},
		{15, 1, api.ErrWidth},
		{4, 0, api.ErrWidth},
		{4, 1, api.ErrWidth},
		{4, 2, api.ErrWidth},
		{4, 3, api.ErrWidth},
		{4, 5, api.ErrWidth},
		{4, 8, api.ErrWidth},
		{4, -4, api.ErrWidth},
		{4, 1<<32 + 4, api.ErrWidth},
		{4, math.MinInt, api.ErrWidth},
		{4, math.MaxInt, api.ErrWidth},
	} {
		c := busy(t)
		if v, e := c.Load(x.offset, x.width); v != 0 || e != x.want {
			t.Errorf("Load(%d, %d) = %#x, %v, not %v", x.offset, x.width, v, e, x.want)
		}
		if e := c.Store(x.offset, x.width, 1); e != x.want {
			t.Errorf("Store(%d, %d, 1) = %v, not %v", x.offset, x.width, e, x.want)
		}
		expectAll(t, c, 0x80000012, 0x80000030, 5)
	}
}

func TestNil(t *testing.T) {
	var c *Ctrl
	for _, line := range []int{-1, 0, 31, 32} {
		if e := c.Set(line, true); e != api.ErrArg {
			t.Errorf("Set(%d, true) = %v", line, e)
		}
	}
	for _, offset := range []uint64{0, 1, 4, 8, 12, 16, math.MaxUint64} {
		for _, width := range []int{4, 1, -1} {
			if v, e := c.Load(offset, width); v != 0 || e != api.ErrArg {
				t.Errorf("Load(%d, %d) = %d, %v", offset, width, v, e)
			}
			if e := c.Store(offset, width, 1); e != api.ErrArg {
				t.Errorf("Store(%d, %d, 1) = %v", offset, width, e)
			}
		}
	}
	if c.High() {
		t.Error("High() of nil")
	}
}

func TestEachOnItsOwn(t *testing.T) {
	a, b := busy(t), new(Ctrl)
	expectAll(t, b, 0, 0, 0)
	c := *a
	set(t, a, 0, true)
	store(t, a, 4, 1)
	expectAll(t, a, 0x80000013, 1, 1)
	expectAll(t, b, 0, 0, 0)
	expectAll(t, &c, 0x80000012, 0x80000030, 5)
}
