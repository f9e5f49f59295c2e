package clock

import (
	"math/rand/v2"
	"testing"

	"arboret/api"
)

// The tests of this file are P18.1's: random steps are held against a model, which keeps the cells as they are read.

type model struct {
	cells [4]uint64
}

func (m *model) wrong(offset uint64, width int) api.Errno {
	if offset > 15 {
		return api.ErrDecode
	}
	if width != 4 || offset != 0 && offset != 4 && offset != 8 && offset != 12 {
		return api.ErrWidth
	}
	return api.OK
}

func (m *model) load(offset uint64, width int) (uint64, api.Errno) {
	if e := m.wrong(offset, width); e != api.OK {
		return 0, e
	}
	return m.cells[offset/4], api.OK
}

func (m *model) store(offset uint64, width int, v uint64) api.Errno {
	if e := m.wrong(offset, width); e != api.OK {
		return e
	}
	v %= 1 << 32
	switch offset {
	case 4:
		v %= 4
	case 8:
		if v%2 == 1 {
			v = 0
		} else {
			v = m.cells[2]
		}
	}
	m.cells[offset/4] = v
	return api.OK
}

func (m *model) tick() {
	if m.cells[1]%2 == 0 || m.cells[0] == 0 {
		return
	}
	if m.cells[0]--; m.cells[0] > 0 {
		return
	}
	m.cells[2] = 1
	m.cells[0] = m.cells[3]
}

// value is what may be written: mostly a small number, as a great one doesn't come to 0.
func value(r *rand.Rand) uint64 {
	switch r.IntN(8) {
	case 0:
		return r.Uint64()
	case 1:
		return r.Uint64()<<32 | r.Uint64N(4)
	}
	return r.Uint64N(5)
}

// step does the same with both, and answers whether both answered the same. Of ten steps, often are ticks.
func step(r *rand.Rand, c *Clock, m *model, often int) bool {
	if r.IntN(10) < often {
		c.Tick()
		m.tick()
		return true
	}
	offset, width := r.Uint64N(5)*4, 4
	if r.IntN(4) == 0 {
		offset, width = r.Uint64()>>(58+r.IntN(4)), r.IntN(10)-1
	}
	if r.IntN(2) == 0 {
		v := value(r)
		return c.Store(offset, width, v) == m.store(offset, width, v)
	}
	got, e := c.Load(offset, width)
	want, f := m.load(offset, width)
	return got == want && e == f
}

func TestRandomSteps(t *testing.T) {
	for seed := range uint64(200) {
		r := rand.New(rand.NewPCG(18, seed))
		var c Clock
		var m model
		for i := range 400 {
			if !step(r, &c, &m, 1+int(seed%8)) {
				t.Fatalf("seed %d, step %d: not as the model", seed, i)
			}
			expectAll(t, &c, m.cells[0], m.cells[1], m.cells[2], m.cells[3])
			if t.Failed() {
				t.Fatalf("seed %d, step %d", seed, i)
			}
		}
	}
}
