package ctrl

import (
	"math/rand/v2"
	"testing"

	"arboret/api"
)

// The tests of this file are P16.1's: random steps are held against a model, which is lines and a mask one by one.

type model struct {
	lines [32]bool
	mask  [32]bool
}

func cellOf(l [32]bool) uint64 {
	var v uint64
	for i, on := range l {
		if on {
			v += 1 << i
		}
	}
	return v
}

func (m *model) next() uint64 {
	for i := range m.lines {
		if m.lines[i] && m.mask[i] {
			return uint64(i) + 1
		}
	}
	return 0
}

func (m *model) set(line int, high bool) api.Errno {
	if line < 0 || line > 31 {
		return api.ErrArg
	}
	m.lines[line] = high
	return api.OK
}

func (m *model) load(offset uint64, width int) (uint64, api.Errno) {
	if offset > 15 {
		return 0, api.ErrDecode
	}
	if width != 4 {
		return 0, api.ErrWidth
	}
	switch offset {
	case 0:
		return cellOf(m.lines), api.OK
	case 4:
		return cellOf(m.mask), api.OK
	case 8:
		return m.next(), api.OK
	case 12:
		return 0, api.OK
	}
	return 0, api.ErrWidth
}

func (m *model) store(offset uint64, width int, v uint64) api.Errno {
	_, e := m.load(offset, width)
	if e == api.OK && offset == 4 {
		for i := range m.mask {
			m.mask[i] = v>>i&1 == 1
		}
	}
	return e
}

// step does the same with both, and answers whether both answered the same.
func step(r *rand.Rand, c *Ctrl, m *model) bool {
	offset, width := r.Uint64N(5)*4, 4
	if r.IntN(4) == 0 {
		offset, width = r.Uint64()>>(58+r.IntN(4)), r.IntN(10)-1
	}
	switch r.IntN(3) {
	case 0:
		line, high := r.IntN(36)-2, r.IntN(3) > 0
		return c.Set(line, high) == m.set(line, high)
	case 1:
		v := r.Uint64() & r.Uint64()
		return c.Store(offset, width, v) == m.store(offset, width, v)
	}
	got, e := c.Load(offset, width)
	want, f := m.load(offset, width)
	return got == want && e == f
}

func TestRandomSteps(t *testing.T) {
	for seed := range uint64(200) {
		r := rand.New(rand.NewPCG(16, seed))
		var c Ctrl
		var m model
		for i := range 300 {
			if !step(r, &c, &m) {
				t.Fatalf("seed %d, step %d: not as the model", seed, i)
			}
			expectAll(t, &c, cellOf(m.lines), cellOf(m.mask), m.next())
			if t.Failed() {
				t.Fatalf("seed %d, step %d", seed, i)
			}
		}
	}
}
