package uart

import (
	"testing"

	"arboret/api"
)

// The tests of this file are R3's, of P17.1's calls: what is answered is new memory, and no UART shares any with another one.

// scribble writes over all of b, its spare room too.
func scribble(b []byte) {
	b = b[:cap(b)]
	for i := range b {
		b[i] = '#'
	}
}

func TestSentIsNewMemory(t *testing.T) {
	for n := range 3*pageSize + 2 {
		var u UART
		text := string(run('a', n))
		send(t, &u, text)
		scribble(u.Sent())
		first, then := u.Sent(), u.Sent()
		scribble(first)
		if string(then) != text {
			t.Fatalf("of %d bytes: Sent() = %q", n, then)
		}
		send(t, &u, "!")
		if string(then) != text {
			t.Fatalf("of %d bytes: what Sent answered is %q", n, then)
		}
		expectAll(t, &u, 0, 0, 0, text+"!")
	}
}

func TestEachOnItsOwn(t *testing.T) {
	a, b := busy(t), new(UART)
	expectAll(t, b, 0, 0, 0, "")
	c := *a
	send(t, a, "!")
	store(t, a, 4, 2)
	store(t, a, 8, 0)
	expect(t, a, 0, 200)
	come(t, a, 1, 2)
	expectAll(t, a, 1, 0, 4, "ok!")
	expectAll(t, b, 0, 0, 0, "")
	expectStillBusy(t, &c)
	expectGone(t, a, 201, 202, 1, 2)
}

func TestCopiesSendOnTheirOwn(t *testing.T) {
	for n := range 3*pageSize + 2 {
		var u UART
		text := string(run('a', n))
		send(t, &u, text)
		v, w := u, u
		send(t, &v, "yes")
		send(t, &u, "no, no")
		expectAll(t, &w, 0, 0, 0, text)
		// What u was, it is again; what it sends then is nobody else's.
		was := u
		u = w
		send(t, &u, "maybe")
		expectAll(t, &was, 0, 0, 0, text+"no, no")
		expectAll(t, &v, 0, 0, 0, text+"yes")
		expectAll(t, &w, 0, 0, 0, text)
		expectAll(t, &u, 0, 0, 0, text+"maybe")
		if t.Failed() {
			t.Fatalf("of %d bytes", n)
		}
	}
}

func TestCopiesComeOnTheirOwn(t *testing.T) {
	var u UART
	come(t, &u, run(1, api.Fifo-1)...)
	v := u
	come(t, &u, 50)
	come(t, &v, 60)
	if e := u.Come(51); e != api.ErrFull {
		t.Errorf("Come(51) = %v", e)
	}
	expect(t, &u, 4, 3)
	expect(t, &v, 4, 1)
	expectGone(t, &u, append(run(1, api.Fifo-1), 50)...)
	expectGone(t, &v, append(run(1, api.Fifo-1), 60)...)
}
