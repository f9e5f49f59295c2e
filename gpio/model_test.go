package gpio

import (
	"math/rand/v2"
	"testing"

	"arboret/api"
)

// The tests of this file are P19.1's: random steps are held against a model, which asks pin by pin.

type line struct {
	outside, out, goes, edge, level, noted bool
}

func (l line) high() bool {
	if l.goes {
		return l.out
	}
	return l.outside
}

type model struct {
	lines [32]line
	may   bool
}

// change does what it is told to each line, and notes those that become high.
func (m *model) change(f func(i int, l *line)) {
	for i := range m.lines {
		l := &m.lines[i]
		was := l.high()
		f(i, l)
		if !was && l.high() && l.edge {
			l.noted = true
		}
	}
}

func (m *model) cell(f func(l line) bool) uint64 {
	v, bit := uint64(0), uint64(1)
	for _, l := range m.lines {
		if f(l) {
			v += bit
		}
		bit *= 2
	}
	return v
}

func (m *model) cells() cells {
	c := cells{
		pins:      m.cell(line.high),
		out:       m.cell(func(l line) bool { return l.out }),
		direction: m.cell(func(l line) bool { return l.goes }),
		edges:     m.cell(func(l line) bool { return l.edge }),
		levels:    m.cell(func(l line) bool { return l.level }),
		noted:     m.cell(func(l line) bool { return l.noted }),
	}
	if m.may {
		c.may = 1
	}
	return c
}

func wrong(offset uint64, width int) api.Errno {
	if offset > 31 {
		return api.ErrDecode
	}
	if width != 4 || offset%4 != 0 {
		return api.ErrWidth
	}
	return api.OK
}

func (m *model) load(offset uint64, width int) (uint64, api.Errno) {
	if e := wrong(offset, width); e != api.OK {
		return 0, e
	}
	c := m.cells()
	return []uint64{c.pins, c.out, c.direction, c.edges, c.levels, c.noted, c.may, 0}[offset/4], api.OK
}

func (m *model) store(offset uint64, width int, v uint64) api.Errno {
	if e := wrong(offset, width); e != api.OK {
		return e
	}
	if offset == 24 {
		m.may = v%2 == 1
	}
	m.change(func(i int, l *line) {
		on := v>>i%2 == 1
		switch offset {
		case 4:
			l.out = on
		case 8:
			l.goes = on
		case 12:
			l.edge = on
		case 16:
			l.level = on
		case 20:
			l.noted = l.noted && !on
		}
	})
	return api.OK
}

func (m *model) pin(pin int, high bool) api.Errno {
	if pin < 0 || pin > 31 {
		return api.ErrArg
	}
	m.change(func(i int, l *line) {
		if i == pin {
			l.outside = high
		}
	})
	return api.OK
}

// value is what may be written: often few bits, so that GPIOs that aren't high come too.
func value(r *rand.Rand) uint64 {
	switch r.IntN(4) {
	case 0:
		return r.Uint64()
	case 1:
		return r.Uint64() & r.Uint64() & r.Uint64()
	case 2:
		return 1 << r.IntN(34)
	}
	return r.Uint64N(4)
}

// step does the same with both, and answers whether both answered the same. Of the pins, those below few are taken most.
func step(r *rand.Rand, g *GPIO, m *model, few int) bool {
	if r.IntN(2) == 0 {
		i, high := r.IntN(few), r.IntN(2) == 0
		if r.IntN(4) == 0 {
			i = r.IntN(36) - 2
		}
		return g.Pin(i, high) == m.pin(i, high)
	}
	offset, width := r.Uint64N(9)*4, 4
	if r.IntN(4) == 0 {
		offset, width = r.Uint64()>>(57+r.IntN(5)), r.IntN(10)-1
	}
	if r.IntN(4) != 0 {
		v := value(r)
		return g.Store(offset, width, v) == m.store(offset, width, v)
	}
	got, e := g.Load(offset, width)
	want, f := m.load(offset, width)
	return got == want && e == f
}

func TestRandomSteps(t *testing.T) {
	for seed := range uint64(100) {
		r := rand.New(rand.NewPCG(19, seed))
		var g GPIO
		var m model
		for i := range 400 {
			if !step(r, &g, &m, 1+int(seed%32)) {
				t.Fatalf("seed %d, step %d: not as the model", seed, i)
			}
			expectAll(t, &g, m.cells())
			if t.Failed() {
				t.Fatalf("seed %d, step %d", seed, i)
			}
		}
	}
}
