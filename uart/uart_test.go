package uart

import (
	"bytes"
	"math"
	"testing"

	"arboret/api"
)

// The tests of this file are P17.1's, and, of its calls, the rules R1, R2 and R5's.

func expect(t *testing.T, u *UART, offset uint64, want uint64) {
	t.Helper()
	if v, e := u.Load(offset, 4); v != want || e != api.OK {
		t.Errorf("Load(%d, 4) = %#x, %v, not %#x", offset, v, e, want)
	}
}

// expectAll asks all that a UART tells, but for the bytes that are there.
func expectAll(t *testing.T, u *UART, state, may, count uint64, sent string) {
	t.Helper()
	expect(t, u, 4, state)
	expect(t, u, 8, may)
	expect(t, u, 12, count)
	if high := u.High(); high != (may == 1 && count > 0) {
		t.Errorf("High() = %v, with the cell 8 %d and %d there", high, may, count)
	}
	if b := u.Sent(); string(b) != sent {
		t.Errorf("Sent() = %q, not %q", b, sent)
	}
}

// expectGone takes all bytes that are there, and one more.
func expectGone(t *testing.T, u *UART, want ...byte) {
	t.Helper()
	for _, b := range want {
		expect(t, u, 0, uint64(b))
	}
	expect(t, u, 12, 0)
	expect(t, u, 0, 0)
	expect(t, u, 12, 0)
}

func come(t *testing.T, u *UART, l ...byte) {
	t.Helper()
	for _, b := range l {
		if e := u.Come(b); e != api.OK {
			t.Errorf("Come(%d) = %v", b, e)
		}
	}
}

func store(t *testing.T, u *UART, offset, v uint64) {
	t.Helper()
	if e := u.Store(offset, 4, v); e != api.OK {
		t.Errorf("Store(%d, 4, %#x) = %v", offset, v, e)
	}
}

func send(t *testing.T, u *UART, text string) {
	t.Helper()
	for i := range len(text) {
		store(t, u, 0, uint64(text[i]))
	}
}

// run is n bytes from b on, modulo 256.
func run(b byte, n int) []byte {
	l := make([]byte, n)
	for i := range l {
		l[i] = b + byte(i)
	}
	return l
}

// busy is a UART that has sent "ok", has three bytes, 200 to 202, has lost some, and may raise.
func busy(t *testing.T) *UART {
	t.Helper()
	u := new(UART)
	send(t, u, "ok")
	store(t, u, 8, 1)
	come(t, u, run(187, api.Fifo)...)
	if e := u.Come(9); e != api.ErrFull {
		t.Errorf("Come(9) = %v", e)
	}
	for i := range 13 {
		expect(t, u, 0, uint64(187+i))
	}
	expectBusy(t, u)
	return u
}

func expectBusy(t *testing.T, u *UART) {
	t.Helper()
	expectAll(t, u, 3, 1, 3, "ok")
}

// expectStillBusy takes the bytes, too.
func expectStillBusy(t *testing.T, u *UART) {
	t.Helper()
	expectBusy(t, u)
	expectGone(t, u, 200, 201, 202)
}

func TestBytes(t *testing.T) {
	if Bytes != 16 {
		t.Error(Bytes)
	}
}

func TestZeroValue(t *testing.T) {
	var u UART
	expectAll(t, &u, 0, 0, 0, "")
	expect(t, &u, 0, 0)
	expectAll(t, &u, 0, 0, 0, "")
}

func TestExample(t *testing.T) {
	var u UART
	come(t, &u, 7)
	expectAll(t, &u, 1, 0, 1, "")
	expect(t, &u, 0, 7)
	expectAll(t, &u, 0, 0, 0, "")
}

func TestFirstComesFirst(t *testing.T) {
	var u UART
	come(t, &u, 5, 0, 255, 5)
	for i, b := range []uint64{5, 0, 255, 5} {
		expectAll(t, &u, 1, 0, 4-uint64(i), "")
		expect(t, &u, 0, b)
	}
	expectAll(t, &u, 0, 0, 0, "")
	come(t, &u, 1, 2)
	expect(t, &u, 0, 1)
	come(t, &u, 3)
	expectGone(t, &u, 2, 3)
}

func TestEachByteComes(t *testing.T) {
	for b := range 256 {
		var u UART
		come(t, &u, byte(b))
		expectAll(t, &u, 1, 0, 1, "")
		expectGone(t, &u, byte(b))
	}
}

func TestEachNumberThere(t *testing.T) {
	for n := range api.Fifo + 1 {
		var u UART
		store(t, &u, 8, 1)
		l := run(byte(n), n)
		come(t, &u, l...)
		state := uint64(0)
		if n > 0 {
			state = 1
		}
		expectAll(t, &u, state, 1, uint64(n), "")
		expectGone(t, &u, l...)
		expectAll(t, &u, 0, 1, 0, "")
	}
}

func TestThroughAndThrough(t *testing.T) {
	// Each step leaves one more there than was there, till all that has room is there.
	var u UART
	next, first := byte(0), byte(0)
	for range api.Fifo / 2 {
		come(t, &u, next, next+1, next+2)
		next += 3
		for range 2 {
			expect(t, &u, 0, uint64(first))
			first++
		}
	}
	for range 100 {
		come(t, &u, next)
		next++
		expect(t, &u, 0, uint64(first))
		first++
	}
	expectGone(t, &u, run(first, api.Fifo/2)...)
	expectAll(t, &u, 0, 0, 0, "")
}

func TestFull(t *testing.T) {
	var u UART
	l := run(1, api.Fifo)
	come(t, &u, l...)
	expectAll(t, &u, 1, 0, api.Fifo, "")
	for range 3 {
		if e := u.Come(99); e != api.ErrFull {
			t.Errorf("Come(99) = %v", e)
		}
		expectAll(t, &u, 3, 0, api.Fifo, "")
	}
	// With one gone, one has room.
	expect(t, &u, 0, 1)
	come(t, &u, 50)
	if e := u.Come(51); e != api.ErrFull {
		t.Errorf("Come(51) = %v", e)
	}
	expectGone(t, &u, append(run(2, api.Fifo-1), 50)...)
	// Lost is lost, though nothing is there.
	expectAll(t, &u, 2, 0, 0, "")
	come(t, &u, 4)
	expectAll(t, &u, 3, 0, 1, "")
}

func TestStoreOfTheState(t *testing.T) {
	for _, x := range []struct{ v, state uint64 }{
		{0, 3},
		{1, 3},
		{2, 1},
		{3, 1},
		{4, 3},
		{^uint64(2), 3},
		{math.MaxUint32 - 2, 3},
		{math.MaxUint32, 1},
		{math.MaxUint64, 1},
		{1 << 33, 3},
		{2 << 32, 3},
		{1<<63 | 2, 1},
	} {
		u := busy(t)
		store(t, u, 4, x.v)
		expectAll(t, u, x.state, 1, 3, "ok")
		expectGone(t, u, 200, 201, 202)
	}
}

func TestStateIsNotSet(t *testing.T) {
	// What is written takes away; it makes nothing lost, or there.
	for v := range uint64(8) {
		var u UART
		store(t, &u, 4, v)
		expectAll(t, &u, 0, 0, 0, "")
		come(t, &u, 3)
		store(t, &u, 4, v)
		expectAll(t, &u, 1, 0, 1, "")
		expectGone(t, &u, 3)
	}
}

func TestLostAgain(t *testing.T) {
	var u UART
	come(t, &u, run(1, api.Fifo)...)
	for range 3 {
		if e := u.Come(0); e != api.ErrFull {
			t.Errorf("Come(0) = %v", e)
		}
		expectAll(t, &u, 3, 0, api.Fifo, "")
		store(t, &u, 4, 2)
		expectAll(t, &u, 1, 0, api.Fifo, "")
	}
}

func TestStoreOfMayRaise(t *testing.T) {
	for _, x := range []struct{ v, may uint64 }{
		{0, 0},
		{1, 1},
		{2, 0},
		{3, 1},
		{math.MaxUint32, 1},
		{math.MaxUint32 - 1, 0},
		{math.MaxUint64, 1},
		{math.MaxUint64 - 1, 0},
		{1 << 32, 0},
		{1<<32 | 1, 1},
	} {
		for _, was := range []uint64{0, 1} {
			u := busy(t)
			store(t, u, 8, was)
			expectAll(t, u, 3, was, 3, "ok")
			store(t, u, 8, x.v)
			expectAll(t, u, 3, x.may, 3, "ok")
			expectGone(t, u, 200, 201, 202)
			expectAll(t, u, 2, x.may, 0, "ok")
		}
	}
}

func TestHigh(t *testing.T) {
	var u UART
	high := func(want bool) {
		t.Helper()
		if u.High() != want {
			t.Errorf("High() = %v", !want)
		}
	}
	high(false)
	store(t, &u, 8, 1)
	high(false)
	come(t, &u, 0, 1)
	high(true)
	store(t, &u, 8, 0)
	high(false)
	store(t, &u, 8, 1)
	high(true)
	expect(t, &u, 0, 0)
	high(true)
	expect(t, &u, 0, 1)
	high(false)
	// What was sent, or lost, raises nothing.
	send(t, &u, "x")
	high(false)
	come(t, &u, run(0, api.Fifo)...)
	u.Come(0)
	high(true)
	expectGone(t, &u, run(0, api.Fifo)...)
	expect(t, &u, 4, 2)
	high(false)
}

func TestLowerBitsAreSent(t *testing.T) {
	for _, x := range []struct {
		v    uint64
		want byte
	}{
		{0, 0},
		{'i', 'i'},
		{'i' | 256, 'i'},
		{255, 255},
		{256, 0},
		{math.MaxUint32, 255},
		{math.MaxUint64, 255},
		{1 << 32, 0},
		{0xdeadbeef00000180, 0x80},
	} {
		u := busy(t)
		store(t, u, 0, x.v)
		expectAll(t, u, 3, 1, 3, "ok"+string([]byte{x.want}))
		expectGone(t, u, 200, 201, 202)
	}
}

func TestSentIsAllOfIt(t *testing.T) {
	var u UART
	var want []byte
	for i := range 1000 {
		b := byte(i*7 + i/256)
		store(t, &u, 0, uint64(b))
		want = append(want, b)
		if got := u.Sent(); !bytes.Equal(got, want) {
			t.Fatalf("behind %d bytes: Sent() = %v", len(want), got)
		}
	}
	// What is sent doesn't come, and what comes isn't sent.
	expectAll(t, &u, 0, 0, 0, string(want))
	come(t, &u, 1, 2)
	expectGone(t, &u, 1, 2)
	expectAll(t, &u, 0, 0, 0, string(want))
}

func TestMuchIsSent(t *testing.T) {
	const much = 1<<20 + 5
	var u UART
	for i := range uint64(much) {
		if e := u.Store(0, 4, i*i>>3); e != api.OK {
			t.Fatal(i, e)
		}
	}
	sent := u.Sent()
	if len(sent) != much {
		t.Fatal(len(sent))
	}
	for i, b := range sent {
		if b != byte(i*i>>3) {
			t.Fatalf("byte %d of Sent() = %d", i, b)
		}
	}
}

func TestReadingTakesBytesAlone(t *testing.T) {
	u := busy(t)
	for range 3 {
		expectBusy(t, u)
	}
	expect(t, u, 0, 200)
	expectAll(t, u, 3, 1, 2, "ok")
	expectGone(t, u, 201, 202)
	expectAll(t, u, 2, 1, 0, "ok")
}

func TestStoreWhereNothingIsWritten(t *testing.T) {
	for _, v := range []uint64{0, 1, 2, 5, 1 << 31, math.MaxUint32, math.MaxUint64} {
		u := busy(t)
		store(t, u, 12, v)
		expectStillBusy(t, u)
	}
}

func TestWrongAccess(t *testing.T) {
	for _, x := range []struct {
		offset uint64
		width  int
		want   api.Errno
	}{
		{16, 4, api.ErrDecode},
		{20, 4, api.ErrDecode},
		{16, 1, api.ErrDecode},
		{17, 4, api.ErrDecode},
		{17, 3, api.ErrDecode},
		{1 << 32, 4, api.ErrDecode},
		{1<<32 + 4, 4, api.ErrDecode},
		{math.MaxUint64, 4, api.ErrDecode},
		{math.MaxUint64 - 15, 4, api.ErrDecode},
		{1, 4, api.ErrWidth},
		{2, 4, api.ErrWidth},
		{3, 4, api.ErrWidth},
		{5, 4, api.ErrWidth},
		{9, 4, api.ErrWidth},
		{15, 4, api.ErrWidth},
		{15, 1, api.ErrWidth},
		{0, 0, api.ErrWidth},
		{0, 1, api.ErrWidth},
		{0, 2, api.ErrWidth},
		{0, 8, api.ErrWidth},
		{0, -4, api.ErrWidth},
		{0, 1<<32 + 4, api.ErrWidth},
		{4, 1, api.ErrWidth},
		{4, 3, api.ErrWidth},
		{8, 1, api.ErrWidth},
		{8, 8, api.ErrWidth},
		{8, math.MinInt, api.ErrWidth},
		{12, math.MaxInt, api.ErrWidth},
	} {
		u := busy(t)
		if v, e := u.Load(x.offset, x.width); v != 0 || e != x.want {
			t.Errorf("Load(%d, %d) = %#x, %v, not %v", x.offset, x.width, v, e, x.want)
		}
		for _, v := range []uint64{0, 2, 'x'} {
			if e := u.Store(x.offset, x.width, v); e != x.want {
				t.Errorf("Store(%d, %d, %d) = %v, not %v", x.offset, x.width, v, e, x.want)
			}
		}
		expectStillBusy(t, u)
	}
}

func TestNil(t *testing.T) {
	var u *UART
	for _, offset := range []uint64{0, 1, 4, 8, 12, 16, math.MaxUint64} {
		for _, width := range []int{4, 1, -1} {
			if v, e := u.Load(offset, width); v != 0 || e != api.ErrArg {
				t.Errorf("Load(%d, %d) = %d, %v", offset, width, v, e)
			}
			if e := u.Store(offset, width, 1); e != api.ErrArg {
				t.Errorf("Store(%d, %d, 1) = %v", offset, width, e)
			}
		}
	}
	for range api.Fifo + 2 {
		if e := u.Come(1); e != api.ErrArg {
			t.Errorf("Come(1) = %v", e)
		}
	}
	if b := u.Sent(); len(b) != 0 {
		t.Errorf("Sent() = %v", b)
	}
	if u.High() {
		t.Error("High() of nil")
	}
}
