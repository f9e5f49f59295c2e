package clock

import (
	"math"
	"testing"

	"arboret/api"
)

// The tests of this file are P18.1's, and, of its calls, the rules R1, R2, R3 and R5's.

func expect(t *testing.T, c *Clock, offset uint64, want uint64) {
	t.Helper()
	if v, e := c.Load(offset, 4); v != want || e != api.OK {
		t.Errorf("Load(%d, 4) = %#x, %v, not %#x", offset, v, e, want)
	}
}

// expectAll asks all that a clock tells.
func expectAll(t *testing.T, c *Clock, count, state, done, again uint64) {
	t.Helper()
	expect(t, c, 0, count)
	expect(t, c, 4, state)
	expect(t, c, 8, done)
	expect(t, c, 12, again)
	if high := c.High(); high != (state >= 2 && done == 1) {
		t.Errorf("High() = %v, with the cell 4 %d and the cell 8 %d", high, state, done)
	}
}

func store(t *testing.T, c *Clock, offset, v uint64) {
	t.Helper()
	if e := c.Store(offset, 4, v); e != api.OK {
		t.Errorf("Store(%d, 4, %#x) = %v", offset, v, e)
	}
}

// at is a clock with these cells, which hasn't come to 0.
func at(t *testing.T, count, state, again uint64) *Clock {
	t.Helper()
	c := new(Clock)
	store(t, c, 0, count)
	store(t, c, 4, state)
	store(t, c, 12, again)
	expectAll(t, c, count, state, 0, again)
	return c
}

// busy is a clock that has come to 0, runs, may raise, and is at 6 of 9.
func busy(t *testing.T) *Clock {
	t.Helper()
	c := at(t, 1, 3, 9)
	for range 4 {
		c.Tick()
	}
	expectBusy(t, c)
	return c
}

func expectBusy(t *testing.T, c *Clock) {
	t.Helper()
	expectAll(t, c, 6, 3, 1, 9)
}

func TestBytes(t *testing.T) {
	if Bytes != 16 {
		t.Error(Bytes)
	}
}

func TestZeroValue(t *testing.T) {
	var c Clock
	for range 3 {
		expectAll(t, &c, 0, 0, 0, 0)
		c.Tick()
	}
}

func TestExample(t *testing.T) {
	c := at(t, 2, 1, 0)
	c.Tick()
	expectAll(t, c, 1, 1, 0, 0)
	c.Tick()
	expectAll(t, c, 0, 1, 1, 0)
}

func TestStandsUnlessItRuns(t *testing.T) {
	for _, state := range []uint64{0, 2} {
		for _, count := range []uint64{0, 1, 2, math.MaxUint32} {
			c := at(t, count, state, 5)
			for range 3 {
				c.Tick()
				expectAll(t, c, count, state, 0, 5)
			}
		}
	}
}

func TestStandsAtZero(t *testing.T) {
	// Who is at 0 doesn't come to 0, and what the count becomes then isn't asked for.
	for _, again := range []uint64{0, 1, 5} {
		c := at(t, 0, 3, again)
		for range 3 {
			c.Tick()
			expectAll(t, c, 0, 3, 0, again)
		}
	}
}

func TestTick(t *testing.T) {
	for _, x := range []struct{ count, again, then, done uint64 }{
		{1, 0, 0, 1},
		{1, 1, 1, 1},
		{1, 2, 2, 1},
		{1, math.MaxUint32, math.MaxUint32, 1},
		{2, 0, 1, 0},
		{2, 7, 1, 0},
		{3, 1, 2, 0},
		{1 << 16, 7, 1<<16 - 1, 0},
		{1 << 31, 7, 1<<31 - 1, 0},
		{1<<31 + 1, 7, 1 << 31, 0},
		{math.MaxUint32, 7, math.MaxUint32 - 1, 0},
	} {
		for _, state := range []uint64{1, 3} {
			c := at(t, x.count, state, x.again)
			c.Tick()
			expectAll(t, c, x.then, state, x.done, x.again)
		}
	}
}

func TestAgainAndAgain(t *testing.T) {
	for again := range uint64(6) {
		for count := range uint64(6) {
			c := at(t, count, 3, again)
			left, done := count, uint64(0)
			for range 30 {
				c.Tick()
				switch left {
				case 0:
				case 1:
					left, done = again, 1
				default:
					left--
				}
				expectAll(t, c, left, 3, done, again)
			}
		}
	}
}

func TestComesToZeroAfterItWasTold(t *testing.T) {
	// What it has come to stays, till it is told; each time that it comes to 0 it is so again.
	c := at(t, 2, 3, 2)
	for range 5 {
		c.Tick()
		expectAll(t, c, 1, 3, 0, 2)
		c.Tick()
		expectAll(t, c, 2, 3, 1, 2)
		c.Tick()
		expectAll(t, c, 1, 3, 1, 2)
		store(t, c, 8, 1)
		expectAll(t, c, 1, 3, 0, 2)
		c.Tick()
		expectAll(t, c, 2, 3, 1, 2)
		store(t, c, 8, 1)
	}
	c = at(t, 1, 3, 1)
	for range 5 {
		c.Tick()
		expectAll(t, c, 1, 3, 1, 1)
		store(t, c, 8, 1)
		expectAll(t, c, 1, 3, 0, 1)
	}
}

func TestLastsThoughAllIsWritten(t *testing.T) {
	c := busy(t)
	store(t, c, 0, 0)
	expectAll(t, c, 0, 3, 1, 9)
	store(t, c, 12, 0)
	expectAll(t, c, 0, 3, 1, 0)
	store(t, c, 4, 0)
	expectAll(t, c, 0, 0, 1, 0)
	store(t, c, 0, 4)
	expectAll(t, c, 4, 0, 1, 0)
	store(t, c, 4, 2)
	expectAll(t, c, 4, 2, 1, 0)
}

func TestStoreOfTheCount(t *testing.T) {
	for _, x := range []struct{ v, want uint64 }{
		{0, 0},
		{1, 1},
		{5, 5},
		{1 << 31, 1 << 31},
		{math.MaxUint32, math.MaxUint32},
		{1 << 32, 0},
		{1<<32 | 8, 8},
		{0xdeadbeef01020304, 0x01020304},
		{math.MaxUint64, math.MaxUint32},
	} {
		c := busy(t)
		store(t, c, 0, x.v)
		expectAll(t, c, x.want, 3, 1, 9)
		c = busy(t)
		store(t, c, 12, x.v)
		expectAll(t, c, 6, 3, 1, x.want)
	}
}

func TestCountOfZeroIsNotComeTo(t *testing.T) {
	c := at(t, 5, 3, 9)
	store(t, c, 0, 0)
	expectAll(t, c, 0, 3, 0, 9)
	c.Tick()
	expectAll(t, c, 0, 3, 0, 9)
	store(t, c, 0, 1)
	c.Tick()
	expectAll(t, c, 9, 3, 1, 9)
}

func TestCountBecomesWhatIsWrittenLast(t *testing.T) {
	c := at(t, 1, 1, 9)
	store(t, c, 12, 4)
	expectAll(t, c, 1, 1, 0, 4)
	c.Tick()
	expectAll(t, c, 4, 1, 1, 4)
	// A count that is under way goes on.
	store(t, c, 12, 7)
	c.Tick()
	expectAll(t, c, 3, 1, 1, 7)
}

func TestStoreOfTheState(t *testing.T) {
	for _, x := range []struct{ v, want uint64 }{
		{0, 0},
		{1, 1},
		{2, 2},
		{3, 3},
		{4, 0},
		{5, 1},
		{6, 2},
		{7, 3},
		{math.MaxUint32, 3},
		{math.MaxUint32 - 3, 0},
		{math.MaxUint64, 3},
		{1 << 32, 0},
		{1 << 33, 0},
		{3 << 32, 0},
		{1<<63 | 2, 2},
	} {
		for was := range uint64(4) {
			c := busy(t)
			store(t, c, 4, was)
			expectAll(t, c, 6, was, 1, 9)
			store(t, c, 4, x.v)
			expectAll(t, c, 6, x.want, 1, 9)
			c.Tick()
			expectAll(t, c, 6-x.want&1, x.want, 1, 9)
		}
	}
}

func TestStoreOfTheEnd(t *testing.T) {
	for _, x := range []struct{ v, want uint64 }{
		{0, 1},
		{1, 0},
		{2, 1},
		{3, 0},
		{1 << 31, 1},
		{math.MaxUint32, 0},
		{math.MaxUint32 - 1, 1},
		{math.MaxUint64, 0},
		{math.MaxUint64 - 1, 1},
		{1 << 32, 1},
		{1<<32 | 1, 0},
	} {
		c := busy(t)
		store(t, c, 8, x.v)
		expectAll(t, c, 6, 3, x.want, 9)
		// What is written takes away; it makes nothing come to 0.
		c = at(t, 6, 3, 9)
		store(t, c, 8, x.v)
		expectAll(t, c, 6, 3, 0, 9)
	}
}

func TestHigh(t *testing.T) {
	var c Clock
	high := func(want bool) {
		t.Helper()
		if c.High() != want {
			t.Errorf("High() = %v", !want)
		}
	}
	high(false)
	store(t, &c, 4, 3)
	high(false)
	store(t, &c, 0, 2)
	high(false)
	c.Tick()
	high(false)
	c.Tick()
	high(true)
	store(t, &c, 4, 1)
	high(false)
	store(t, &c, 4, 2)
	high(true)
	store(t, &c, 8, 2)
	high(true)
	store(t, &c, 8, 1)
	high(false)
	// It may raise only when it has come to 0, and not as it is at 0.
	c.Tick()
	high(false)
	store(t, &c, 4, 1)
	store(t, &c, 0, 1)
	c.Tick()
	high(false)
	store(t, &c, 4, 2)
	high(true)
}

func TestReadingChangesNothing(t *testing.T) {
	c := busy(t)
	for range 3 {
		expectBusy(t, c)
	}
	c.Tick()
	expectAll(t, c, 5, 3, 1, 9)
}

func TestWrongAccess(t *testing.T) {
	for _, x := range []struct {
		offset uint64
		width  int
		want   api.Errno
	}{
		{16, 4, api.ErrDecode},
		{20, 4, api.ErrDecode},
		{16, 1, api.ErrDecode},
		{17, 4, api.ErrDecode},
		{17, 3, api.ErrDecode},
		{1 << 32, 4, api.ErrDecode},
		{1<<32 + 4, 4, api.ErrDecode},
		{math.MaxUint64, 4, api.ErrDecode},
		{math.MaxUint64 - 15, 4, api.ErrDecode},
		{1, 4, api.ErrWidth},
		{2, 4, api.ErrWidth},
		{3, 4, api.ErrWidth},
		{5, 4, api.ErrWidth},
		{9, 4, api.ErrWidth},
		{13, 4, api.ErrWidth},
		{15, 4, api.ErrWidth},
		{15, 1, api.ErrWidth},
		{0, 0, api.ErrWidth},
		{0, 1, api.ErrWidth},
		{0, 2, api.ErrWidth},
		{0, 8, api.ErrWidth},
		{0, -4, api.ErrWidth},
		{0, 1<<32 + 4, api.ErrWidth},
		{4, 1, api.ErrWidth},
		{4, 3, api.ErrWidth},
		{8, 1, api.ErrWidth},
		{8, 8, api.ErrWidth},
		{8, math.MinInt, api.ErrWidth},
		{12, 2, api.ErrWidth},
		{12, math.MaxInt, api.ErrWidth},
	} {
		c := busy(t)
		if v, e := c.Load(x.offset, x.width); v != 0 || e != x.want {
			t.Errorf("Load(%d, %d) = %#x, %v, not %v", x.offset, x.width, v, e, x.want)
		}
		for _, v := range []uint64{0, 1, 2} {
			if e := c.Store(x.offset, x.width, v); e != x.want {
				t.Errorf("Store(%d, %d, %d) = %v, not %v", x.offset, x.width, v, e, x.want)
			}
		}
		expectBusy(t, c)
	}
}

func TestNil(t *testing.T) {
	var c *Clock
	for _, offset := range []uint64{0, 1, 4, 8, 12, 16, math.MaxUint64} {
		for _, width := range []int{4, 1, -1} {
			if v, e := c.Load(offset, width); v != 0 || e != api.ErrArg {
				t.Errorf("Load(%d, %d) = %d, %v", offset, width, v, e)
			}
			if e := c.Store(offset, width, 1); e != api.ErrArg {
				t.Errorf("Store(%d, %d, 1) = %v", offset, width, e)
			}
		}
	}
	c.Tick()
	if c.High() {
		t.Error("High() of nil")
	}
}

func TestEachOnItsOwn(t *testing.T) {
	a, b := busy(t), new(Clock)
	expectAll(t, b, 0, 0, 0, 0)
	c := *a
	a.Tick()
	store(t, a, 4, 1)
	store(t, a, 8, 1)
	store(t, a, 12, 2)
	expectAll(t, a, 5, 1, 0, 2)
	expectAll(t, b, 0, 0, 0, 0)
	expectBusy(t, &c)
	c.Tick()
	expectAll(t, &c, 5, 3, 1, 9)
	expectAll(t, a, 5, 1, 0, 2)
}
