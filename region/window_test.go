package region

import (
	"math"
	"math/big"
	"math/rand/v2"
	"testing"
)

// last is the last address.
const last = math.MaxUint64

func TestInside(t *testing.T) {
	w := Window{16, 8}
	for _, c := range []struct {
		w        Window
		at, size uint64
		want     bool
	}{
		{Window{0, 16}, 12, 4, true},
		{Window{0, 16}, 12, 5, false},
		{Window{0, 16}, 13, 4, false},
		{w, 16, 8, true},
		{w, 16, 1, true},
		{w, 17, 7, true},
		{w, 23, 1, true},
		{w, 16, 9, false},
		{w, 17, 8, false},
		{w, 23, 2, false},
		{w, 24, 1, false},
		{w, 25, 1, false},
		{w, 15, 1, false},
		{w, 15, 2, false},
		{w, 15, 9, false},
		{w, 0, 1, false},
		{w, 0, 17, false},
		{w, 0, 24, false},
		// No bytes are in no window.
		{w, 16, 0, false},
		{w, 20, 0, false},
		{w, 24, 0, false},
		{Window{0, last}, 0, 0, false},
		{Window{16, 0}, 16, 0, false},
		{Window{}, 0, 0, false},
		{Window{16, 0}, 16, 1, false},
		{Window{16, 0}, 15, 1, false},
		{Window{}, 0, 1, false},
		{Window{last, 0}, last, 1, false},
		// Up to the last address, and no further.
		{Window{last, 1}, last, 1, true},
		{Window{last - 7, 8}, last - 7, 8, true},
		{Window{last - 7, 8}, last - 3, 4, true},
		{Window{last - 7, 8}, last - 3, 5, false},
		{Window{1, last}, 1, last, true},
		{Window{1, last}, last, 1, true},
		{Window{1, last}, 0, 1, false},
		{Window{0, last}, 0, last, true},
		{Window{0, last}, last - 1, 1, true},
		{Window{0, last}, last - 1, 2, false},
		{Window{0, last}, last, 1, false},
		// What goes beyond has nothing in it, not even what doesn't.
		{Window{last, 2}, last, 1, false},
		{Window{last, last}, last, 1, false},
		{Window{last - 7, 9}, last - 7, 1, false},
		{Window{2, last}, 2, 1, false},
		{Window{1 << 63, 1<<63 + 1}, 1 << 63, 1, false},
		{Window{1 << 63, 1 << 63}, 1 << 63, 1 << 63, true},
		{Window{1 << 63, 1 << 63}, last, 1, true},
		// Nor is what goes beyond in anything, wherever it comes back.
		{w, last, 2, false},
		{w, last, 18, false},
		{w, last, 25, false},
		{w, 16, last, false},
		{w, 17, last, false},
		{w, 20, last, false},
		{w, last, last, false},
		{Window{0, last}, last, 2, false},
		{Window{0, last}, 1, last, false},
		{Window{0, last}, last, last, false},
		{Window{1, last}, last, 2, false},
		{Window{1, last}, 2, last, false},
	} {
		if got := Inside(c.w, c.at, c.size); got != c.want {
			t.Errorf("Inside(%v, %d, %d) = %v", c.w, c.at, c.size, got)
		}
	}
}

func TestMeet(t *testing.T) {
	w := Window{16, 8}
	for _, c := range []struct {
		a, b Window
		want bool
	}{
		{w, w, true},
		{w, Window{17, 6}, true},
		{w, Window{16, 1}, true},
		{w, Window{23, 1}, true},
		{w, Window{23, 9}, true},
		{w, Window{24, 9}, false},
		{w, Window{25, 1}, false},
		{w, Window{0, 16}, false},
		{w, Window{0, 17}, true},
		{w, Window{15, 1}, false},
		{w, Window{15, 2}, true},
		{w, Window{0, last}, true},
		// No bytes meet nothing, wherever they are.
		{w, Window{16, 0}, false},
		{w, Window{20, 0}, false},
		{w, Window{24, 0}, false},
		{w, Window{}, false},
		{Window{}, Window{}, false},
		{Window{16, 0}, Window{16, 0}, false},
		{Window{0, last}, Window{20, 0}, false},
		{Window{last, 0}, Window{last, 0}, false},
		{Window{last, 0}, Window{last, 9}, false},
		// What goes beyond is taken up to the last address, and doesn't come back.
		{Window{last, 9}, Window{last, 1}, true},
		{Window{last, 9}, Window{last, last}, true},
		{Window{last, 2}, Window{0, 1}, false},
		{Window{last, 2}, Window{0, last}, false},
		{Window{last, last}, w, false},
		{Window{last - 7, 20}, Window{0, 20}, false},
		{Window{20, last}, w, true},
		{Window{23, last}, w, true},
		{Window{24, last}, w, false},
		{Window{24, last - 7}, w, false},
		{Window{1 << 63, 1 << 63}, Window{last, 1}, true},
		{Window{1 << 63, 1 << 63}, Window{0, 1 << 63}, false},
		{Window{1 << 63, 1 << 63}, Window{0, 1<<63 + 1}, true},
		{Window{0, last}, Window{last, 1}, false},
		{Window{1, last}, Window{last, 1}, true},
		{Window{1, last}, Window{0, 1}, false},
		{Window{1, last}, Window{0, 2}, true},
	} {
		if got := Meet(c.a, c.b); got != c.want {
			t.Errorf("Meet(%v, %v) = %v", c.a, c.b, got)
		}
		if got := Meet(c.b, c.a); got != c.want {
			t.Errorf("Meet(%v, %v) = %v", c.b, c.a, got)
		}
	}
}

func whole(v uint64) *big.Int { return new(big.Int).SetUint64(v) }

// end answers where so many bytes end, as a number that is as great as it is.
func end(at, size uint64) *big.Int { return new(big.Int).Add(whole(at), whole(size)) }

func space() *big.Int { return new(big.Int).Lsh(big.NewInt(1), 64) }

func least(a, b *big.Int) *big.Int {
	if a.Cmp(b) < 0 {
		return a
	}
	return b
}

func modelInside(w Window, at, size uint64) bool {
	own, theirs := end(w.At, w.Size), end(at, size)
	return size > 0 && own.Cmp(space()) <= 0 && theirs.Cmp(space()) <= 0 && w.At <= at && theirs.Cmp(own) <= 0
}

func modelMeet(a, b Window) bool {
	if a.Size == 0 || b.Size == 0 {
		return false
	}
	to := least(space(), least(end(a.At, a.Size), end(b.At, b.Size)))
	return whole(a.At).Cmp(to) < 0 && whole(b.At).Cmp(to) < 0
}

func compare(t *testing.T, a, b Window) {
	t.Helper()
	if got, want := Inside(a, b.At, b.Size), modelInside(a, b.At, b.Size); got != want {
		t.Fatalf("Inside(%v, %d, %d) = %v", a, b.At, b.Size, got)
	}
	if got, want := Meet(a, b), modelMeet(a, b); got != want {
		t.Fatalf("Meet(%v, %v) = %v", a, b, got)
	}
}

func TestAllWindowsAtTheEdges(t *testing.T) {
	edges := []uint64{0, 1, 2, 3, 4, 1<<63 - 1, 1 << 63, 1<<63 + 1, last - 4, last - 3, last - 2, last - 1, last}
	for _, at := range edges {
		for _, size := range edges {
			for _, other := range edges {
				for _, length := range edges {
					compare(t, Window{at, size}, Window{other, length})
				}
			}
		}
	}
}

// bytesOf answers the addresses, from some on, of which w has a byte, one by one; a window is of no more than a few bytes.
func bytesOf(w Window) map[uint64]struct{} {
	l := make(map[uint64]struct{})
	for i := range w.Size {
		if w.At+i >= w.At {
			l[w.At+i] = struct{}{}
		}
	}
	return l
}

func TestSmallWindowsByteByByte(t *testing.T) {
	for _, from := range []uint64{0, 1<<32 - 4, 1<<63 - 4, last - 7} {
		for i := range uint64(8 * 8 * 8 * 8) {
			a, b := Window{from + i>>9, i >> 6 & 7}, Window{from + i>>3&7, i & 7}
			own, theirs := bytesOf(a), bytesOf(b)
			shared := 0
			for at := range theirs {
				if _, ok := own[at]; ok {
					shared++
				}
			}
			if got := Meet(a, b); got != (shared > 0) {
				t.Fatalf("Meet(%v, %v) = %v", a, b, got)
			}
			// Of a window that goes beyond, some bytes are missing.
			all := len(own) == int(a.Size) && b.Size > 0 && shared == int(b.Size)
			if got := Inside(a, b.At, b.Size); got != all {
				t.Fatalf("Inside(%v, %d, %d) = %v", a, b.At, b.Size, got)
			}
		}
	}
}

// number answers a number of any length.
func number(r *rand.Rand) uint64 { return r.Uint64() >> r.IntN(64) }

func TestRandomWindows(t *testing.T) {
	r := rand.New(rand.NewPCG(12, 1))
	for range 20000 {
		a, b := Window{number(r), number(r)}, Window{number(r), number(r)}
		compare(t, a, b)
		// One that is likely to be near the other, or near its end.
		compare(t, a, Window{a.At + number(r)>>r.IntN(64), b.Size})
		compare(t, a, Window{a.At + a.Size - number(r)>>r.IntN(64), number(r) >> r.IntN(64)})
	}
}
