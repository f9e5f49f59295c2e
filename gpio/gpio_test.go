package gpio

import (
	"math"
	"testing"

	"arboret/api"
)

// The tests of this file are P19.1's, and, of its calls, the rules R1, R2, R3 and R5's.

func expect(t *testing.T, g *GPIO, offset uint64, want uint64) {
	t.Helper()
	if v, e := g.Load(offset, 4); v != want || e != api.OK {
		t.Errorf("Load(%d, 4) = %#x, %v, not %#x", offset, v, e, want)
	}
}

func store(t *testing.T, g *GPIO, offset, v uint64) {
	t.Helper()
	if e := g.Store(offset, 4, v); e != api.OK {
		t.Errorf("Store(%d, 4, %#x) = %v", offset, v, e)
	}
}

func pin(t *testing.T, g *GPIO, i int, high bool) {
	t.Helper()
	if e := g.Pin(i, high); e != api.OK {
		t.Errorf("Pin(%d, %v) = %v", i, high, e)
	}
}

func expectHigh(t *testing.T, g *GPIO, want bool) {
	t.Helper()
	if g.High() != want {
		t.Errorf("High() = %v", !want)
	}
}

// cells are what a GPIO's named cells are read as.
type cells struct {
	pins, out, direction, edges, levels, noted, may uint64
}

// expectAll asks all that a GPIO tells.
func expectAll(t *testing.T, g *GPIO, c cells) {
	t.Helper()
	for i, want := range []uint64{c.pins, c.out, c.direction, c.edges, c.levels, c.noted, c.may, 0} {
		expect(t, g, uint64(4*i), want)
	}
	if out := g.Outside(); uint64(out) != c.pins&c.direction {
		t.Errorf("Outside() = %#x, with the pins %#x, of which %#x go out", out, c.pins, c.direction)
	}
	if high := g.High(); high != (c.may == 1 && (c.noted != 0 || c.pins&c.levels != 0)) {
		t.Errorf("High() = %v, with %+v", high, c)
	}
}

// busyCells are those of busy. Pins 0, 1, 4 and 5 are high outside, pins 1, 2 and 5 go out, of these 2 and 5 as high ones.
var busyCells = cells{pins: 0x35, out: 0x2c, direction: 0x26, edges: 0x11, levels: 0x20, noted: 0x11, may: 1}

func busy(t *testing.T) *GPIO {
	t.Helper()
	g := new(GPIO)
	store(t, g, 4, 0x2c)
	store(t, g, 8, 0x26)
	store(t, g, 12, 0x11)
	store(t, g, 16, 0x20)
	store(t, g, 24, 1)
	for _, i := range []int{0, 1, 4, 5} {
		pin(t, g, i, true)
	}
	expectAll(t, g, busyCells)
	return g
}

func TestBytes(t *testing.T) {
	if Bytes != 32 {
		t.Error(Bytes)
	}
}

func TestZeroValue(t *testing.T) {
	var g GPIO
	expectAll(t, &g, cells{})
	for i := range 32 {
		pin(t, &g, i, false)
	}
	expectAll(t, &g, cells{})
}

func TestExample(t *testing.T) {
	var g GPIO
	store(t, &g, 12, 1)
	pin(t, &g, 0, true)
	expectAll(t, &g, cells{pins: 1, edges: 1, noted: 1})
}

func TestPin(t *testing.T) {
	var g GPIO
	all := uint64(0)
	for i := range 32 {
		for range 2 {
			pin(t, &g, i, true)
			all |= 1 << i
			expectAll(t, &g, cells{pins: all})
		}
	}
	for i := range 32 {
		for range 2 {
			pin(t, &g, i, false)
			all &^= 1 << i
			expectAll(t, &g, cells{pins: all})
		}
	}
}

func TestWrongPin(t *testing.T) {
	for _, i := range []int{-1, -32, 32, 33, 64, 1 << 32, 1<<32 + 3, math.MaxInt, math.MinInt, math.MinInt + 3} {
		for _, high := range []bool{false, true} {
			g := busy(t)
			if e := g.Pin(i, high); e != api.ErrArg {
				t.Errorf("Pin(%d, %v) = %v", i, high, e)
			}
			expectAll(t, g, busyCells)
		}
	}
}

func TestWhatGoesOutIsNotAsOutside(t *testing.T) {
	for _, outside := range []bool{false, true} {
		for _, out := range []uint64{0, 0x80} {
			for _, direction := range []uint64{0, 0x80} {
				var g GPIO
				pin(t, &g, 7, outside)
				store(t, &g, 4, out)
				store(t, &g, 8, direction)
				want := direction & out
				if outside {
					want |= 0x80 &^ direction
				}
				expectAll(t, &g, cells{pins: want, out: out, direction: direction})
			}
		}
	}
}

func TestOutsideIsKeptBehindWhatGoesOut(t *testing.T) {
	var g GPIO
	store(t, &g, 8, 2)
	pin(t, &g, 1, true)
	expectAll(t, &g, cells{direction: 2})
	store(t, &g, 8, 0)
	expectAll(t, &g, cells{pins: 2})
	store(t, &g, 4, 2)
	store(t, &g, 8, 2)
	pin(t, &g, 1, false)
	expectAll(t, &g, cells{pins: 2, out: 2, direction: 2})
	store(t, &g, 8, 0)
	expectAll(t, &g, cells{out: 2})
}

func TestOutside(t *testing.T) {
	var g GPIO
	for _, x := range []struct {
		out, direction uint64
		want           uint32
	}{
		{0, 0, 0},
		{math.MaxUint32, 0, 0},
		{0, math.MaxUint32, 0},
		{math.MaxUint32, math.MaxUint32, math.MaxUint32},
		{6, 3, 2},
		{6, 12, 4},
		{1 << 31, 3 << 30, 1 << 31},
		{1, 3 << 30, 0},
	} {
		// Pins that are high outside aren't seen there, whether they go out or not.
		for i := range 32 {
			pin(t, &g, i, i%2 == 0)
		}
		store(t, &g, 4, x.out)
		store(t, &g, 8, x.direction)
		if got := g.Outside(); got != x.want {
			t.Errorf("Outside() = %#x, not %#x", got, x.want)
		}
	}
}

func TestStoreOfCells(t *testing.T) {
	for _, x := range []struct{ v, want uint64 }{
		{0, 0},
		{1, 1},
		{0x5a, 0x5a},
		{1 << 31, 1 << 31},
		{math.MaxUint32, math.MaxUint32},
		{1 << 32, 0},
		{1<<32 | 8, 8},
		{0xdeadbeef01020304, 0x01020304},
		{math.MaxUint64, math.MaxUint32},
	} {
		g := busy(t)
		store(t, g, 12, x.v)
		want := busyCells
		want.edges = x.want
		expectAll(t, g, want)

		g = busy(t)
		store(t, g, 16, x.v)
		want = busyCells
		want.levels = x.want
		expectAll(t, g, want)

		g = busy(t)
		store(t, g, 4, x.v)
		want = busyCells
		want.out = x.want
		want.pins = x.want&0x26 | 0x11
		expectAll(t, g, want)

		// Pins 0 and 4, which EDGES looks for, are noted already.
		g = busy(t)
		store(t, g, 8, x.v)
		want = busyCells
		want.direction = x.want
		want.pins = x.want&0x2c | 0x33&^x.want
		expectAll(t, g, want)
	}
}

func TestStoreOfMay(t *testing.T) {
	for _, x := range []struct{ v, want uint64 }{
		{0, 0},
		{1, 1},
		{2, 0},
		{3, 1},
		{1 << 31, 0},
		{math.MaxUint32, 1},
		{math.MaxUint32 - 1, 0},
		{math.MaxUint64, 1},
		{1 << 32, 0},
		{1<<32 | 1, 1},
	} {
		for was := range uint64(2) {
			g := busy(t)
			store(t, g, 24, was)
			store(t, g, 24, x.v)
			want := busyCells
			want.may = x.want
			expectAll(t, g, want)
		}
	}
}

func TestStoreOfReadOnly(t *testing.T) {
	for _, offset := range []uint64{0, 28} {
		for _, v := range []uint64{0, 1, 0xff, math.MaxUint32, math.MaxUint64} {
			g := busy(t)
			store(t, g, offset, v)
			expectAll(t, g, busyCells)
		}
	}
}

func TestStoreOfNoted(t *testing.T) {
	for _, x := range []struct{ v, want uint64 }{
		{0, 0x11},
		{1, 0x10},
		{0x10, 1},
		{0x11, 0},
		{0xffffffee, 0x11},
		{math.MaxUint32, 0},
		{math.MaxUint64, 0},
		{1 << 32, 0x11},
		{0x11 << 32, 0x11},
		{1<<32 | 0x10, 1},
	} {
		g := busy(t)
		store(t, g, 20, x.v)
		want := busyCells
		want.noted = x.want
		expectAll(t, g, want)
	}
}

func TestEdgeOfEachPin(t *testing.T) {
	for i := range 32 {
		bit := uint64(1) << i
		for _, edges := range []uint64{0, bit, math.MaxUint32 &^ bit, math.MaxUint32} {
			var g GPIO
			store(t, &g, 12, edges)
			pin(t, &g, i, true)
			expectAll(t, &g, cells{pins: bit, edges: edges, noted: bit & edges})

			g = GPIO{}
			store(t, &g, 12, edges)
			store(t, &g, 8, bit)
			store(t, &g, 4, bit)
			expectAll(t, &g, cells{pins: bit, out: bit, direction: bit, edges: edges, noted: bit & edges})

			g = GPIO{}
			store(t, &g, 12, edges)
			store(t, &g, 4, bit)
			store(t, &g, 8, bit)
			expectAll(t, &g, cells{pins: bit, out: bit, direction: bit, edges: edges, noted: bit & edges})
		}
	}
}

func TestWhatIsNotedStays(t *testing.T) {
	var g GPIO
	store(t, &g, 12, 3)
	pin(t, &g, 0, true)
	pin(t, &g, 0, false)
	expectAll(t, &g, cells{edges: 3, noted: 1})
	pin(t, &g, 1, true)
	expectAll(t, &g, cells{pins: 2, edges: 3, noted: 3})
	store(t, &g, 12, 0)
	store(t, &g, 8, 3)
	expectAll(t, &g, cells{direction: 3, noted: 3})
}

func TestNotedIsWhatBecomesHigh(t *testing.T) {
	// A pin that is high already doesn't become so: not by being told again, nor as EDGES looks for it now.
	var g GPIO
	pin(t, &g, 3, true)
	store(t, &g, 12, 8)
	expectAll(t, &g, cells{pins: 8, edges: 8})
	pin(t, &g, 3, true)
	expectAll(t, &g, cells{pins: 8, edges: 8})
	pin(t, &g, 3, false)
	expectAll(t, &g, cells{edges: 8})
	pin(t, &g, 3, true)
	expectAll(t, &g, cells{pins: 8, edges: 8, noted: 8})
	// It is noted no more, till it becomes high again.
	store(t, &g, 20, 8)
	expectAll(t, &g, cells{pins: 8, edges: 8})
	pin(t, &g, 3, true)
	expectAll(t, &g, cells{pins: 8, edges: 8})
	pin(t, &g, 3, false)
	pin(t, &g, 3, true)
	expectAll(t, &g, cells{pins: 8, edges: 8, noted: 8})
}

func TestEdgesAsTheyAreByThen(t *testing.T) {
	var g GPIO
	store(t, &g, 12, 1)
	store(t, &g, 12, 2)
	pin(t, &g, 0, true)
	expectAll(t, &g, cells{pins: 1, edges: 2})
	pin(t, &g, 1, true)
	expectAll(t, &g, cells{pins: 3, edges: 2, noted: 2})
}

func TestNotedByWhatGoesOut(t *testing.T) {
	var g GPIO
	store(t, &g, 12, 0xff)
	store(t, &g, 4, 3)
	expectAll(t, &g, cells{out: 3, edges: 0xff})
	store(t, &g, 8, 5)
	expectAll(t, &g, cells{pins: 1, out: 3, direction: 5, edges: 0xff, noted: 1})
	store(t, &g, 4, 5)
	expectAll(t, &g, cells{pins: 5, out: 5, direction: 5, edges: 0xff, noted: 5})
	store(t, &g, 20, 0xff)
	store(t, &g, 4, 5)
	store(t, &g, 8, 5)
	expectAll(t, &g, cells{pins: 5, out: 5, direction: 5, edges: 0xff})
	store(t, &g, 4, 0)
	store(t, &g, 4, 4)
	expectAll(t, &g, cells{pins: 4, out: 4, direction: 5, edges: 0xff, noted: 4})
}

func TestNotedWhenItGoesOutNoMore(t *testing.T) {
	var g GPIO
	store(t, &g, 12, 0xff)
	store(t, &g, 8, 6)
	pin(t, &g, 1, true)
	expectAll(t, &g, cells{direction: 6, edges: 0xff})
	store(t, &g, 8, 0)
	expectAll(t, &g, cells{pins: 2, edges: 0xff, noted: 2})
}

func TestNotedOnlyIfThePinChanges(t *testing.T) {
	// High outside, and high as it goes out: which of both it is makes nothing become high.
	var g GPIO
	pin(t, &g, 1, true)
	store(t, &g, 4, 2)
	store(t, &g, 12, 2)
	for _, direction := range []uint64{2, 0, 2} {
		store(t, &g, 8, direction)
		expectAll(t, &g, cells{pins: 2, out: 2, direction: direction, edges: 2})
	}
	// What comes from outside isn't seen on a pin that goes out.
	pin(t, &g, 1, false)
	pin(t, &g, 1, true)
	expectAll(t, &g, cells{pins: 2, out: 2, direction: 2, edges: 2})
}

func TestManyAtOnce(t *testing.T) {
	var g GPIO
	for i := range 32 {
		pin(t, &g, i, i%2 == 0)
	}
	const even, odd = 0x55555555, 0xaaaaaaaa
	store(t, &g, 4, odd)
	store(t, &g, 12, 0xf0f0f0f0)
	store(t, &g, 8, math.MaxUint32)
	expectAll(t, &g, cells{pins: odd, out: odd, direction: math.MaxUint32, edges: 0xf0f0f0f0, noted: 0xa0a0a0a0})
	store(t, &g, 20, 0xffff)
	store(t, &g, 8, 0)
	expectAll(t, &g, cells{pins: even, out: odd, edges: 0xf0f0f0f0, noted: 0xf0f05050})
}

func TestHighByWhatIsNoted(t *testing.T) {
	var g GPIO
	store(t, &g, 12, 1)
	store(t, &g, 24, 1)
	expectHigh(t, &g, false)
	pin(t, &g, 1, true)
	expectHigh(t, &g, false)
	pin(t, &g, 0, true)
	expectHigh(t, &g, true)
	pin(t, &g, 0, false)
	expectHigh(t, &g, true)
	store(t, &g, 12, 0)
	expectHigh(t, &g, true)
	store(t, &g, 24, 0)
	expectHigh(t, &g, false)
	store(t, &g, 24, 1)
	expectHigh(t, &g, true)
	store(t, &g, 20, 2)
	expectHigh(t, &g, true)
	store(t, &g, 20, 1)
	expectHigh(t, &g, false)
}

func TestHighByLevels(t *testing.T) {
	var g GPIO
	store(t, &g, 24, 1)
	store(t, &g, 16, 0x80000001)
	expectHigh(t, &g, false)
	pin(t, &g, 1, true)
	expectHigh(t, &g, false)
	for _, i := range []int{0, 31} {
		pin(t, &g, i, true)
		expectHigh(t, &g, true)
		expect(t, &g, 20, 0)
		store(t, &g, 20, math.MaxUint32)
		expectHigh(t, &g, true)
		// It may raise, or not: of levels too.
		store(t, &g, 24, 0)
		expectHigh(t, &g, false)
		store(t, &g, 24, 1)
		expectHigh(t, &g, true)
		pin(t, &g, i, false)
		expectHigh(t, &g, false)
	}
	store(t, &g, 16, 2)
	expectHigh(t, &g, true)
	store(t, &g, 8, 2)
	expectHigh(t, &g, false)
	store(t, &g, 4, 2)
	expectHigh(t, &g, true)
	store(t, &g, 16, 0)
	expectHigh(t, &g, false)
}

func TestReadingChangesNothing(t *testing.T) {
	g := busy(t)
	for range 3 {
		expectAll(t, g, busyCells)
	}
}

func TestWrongAccess(t *testing.T) {
	for _, x := range []struct {
		offset uint64
		width  int
		want   api.Errno
	}{
		{32, 4, api.ErrDecode},
		{36, 4, api.ErrDecode},
		{32, 1, api.ErrDecode},
		{33, 4, api.ErrDecode},
		{33, 3, api.ErrDecode},
		{1 << 32, 4, api.ErrDecode},
		{1<<32 + 4, 4, api.ErrDecode},
		{math.MaxUint64, 4, api.ErrDecode},
		{math.MaxUint64 - 27, 4, api.ErrDecode},
		{1, 4, api.ErrWidth},
		{2, 4, api.ErrWidth},
		{3, 4, api.ErrWidth},
		{5, 4, api.ErrWidth},
		{10, 4, api.ErrWidth},
		{21, 4, api.ErrWidth},
		{29, 4, api.ErrWidth},
		{31, 4, api.ErrWidth},
		{31, 1, api.ErrWidth},
		{0, 0, api.ErrWidth},
		{0, 8, api.ErrWidth},
		{4, 1, api.ErrWidth},
		{4, 2, api.ErrWidth},
		{8, 8, api.ErrWidth},
		{8, 3, api.ErrWidth},
		{12, 2, api.ErrWidth},
		{12, -4, api.ErrWidth},
		{16, 1<<32 + 4, api.ErrWidth},
		{20, 1, api.ErrWidth},
		{20, math.MinInt, api.ErrWidth},
		{24, math.MaxInt, api.ErrWidth},
		{28, 8, api.ErrWidth},
	} {
		g := busy(t)
		if v, e := g.Load(x.offset, x.width); v != 0 || e != x.want {
			t.Errorf("Load(%d, %d) = %#x, %v, not %v", x.offset, x.width, v, e, x.want)
		}
		for _, v := range []uint64{0, 1, math.MaxUint32} {
			if e := g.Store(x.offset, x.width, v); e != x.want {
				t.Errorf("Store(%d, %d, %d) = %v, not %v", x.offset, x.width, v, e, x.want)
			}
		}
		expectAll(t, g, busyCells)
	}
}

func TestNil(t *testing.T) {
	var g *GPIO
	for _, offset := range []uint64{0, 1, 4, 8, 12, 16, 20, 24, 28, 32, math.MaxUint64} {
		for _, width := range []int{4, 1, -1} {
			if v, e := g.Load(offset, width); v != 0 || e != api.ErrArg {
				t.Errorf("Load(%d, %d) = %d, %v", offset, width, v, e)
			}
			if e := g.Store(offset, width, 1); e != api.ErrArg {
				t.Errorf("Store(%d, %d, 1) = %v", offset, width, e)
			}
		}
	}
	for _, i := range []int{-1, 0, 31, 32} {
		if e := g.Pin(i, true); e != api.ErrArg {
			t.Errorf("Pin(%d, true) = %v", i, e)
		}
	}
	if g.High() || g.Outside() != 0 {
		t.Error("High(), or Outside(), of nil")
	}
}

func TestEachOnItsOwn(t *testing.T) {
	a, b := busy(t), new(GPIO)
	expectAll(t, b, cells{})
	c := *a
	store(t, a, 8, 0)
	store(t, a, 4, 0)
	store(t, a, 20, math.MaxUint32)
	pin(t, a, 5, false)
	expectAll(t, a, cells{pins: 0x13, edges: 0x11, levels: 0x20, may: 1})
	expectAll(t, b, cells{})
	expectAll(t, &c, busyCells)
}
