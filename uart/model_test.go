package uart

import (
	"math/rand/v2"
	"testing"

	"arboret/api"
)

// The tests of this file are P17.1's: random steps are held against a model, which keeps all that ever came and was sent.

type model struct {
	came  []byte
	taken int
	lost  bool
	may   bool
	sent  []byte
}

func (m *model) count() int { return len(m.came) - m.taken }

func (m *model) state() uint64 {
	v := uint64(0)
	if m.count() > 0 {
		v++
	}
	if m.lost {
		v += 2
	}
	return v
}

func (m *model) raises() uint64 {
	if m.may {
		return 1
	}
	return 0
}

func (m *model) come(b byte) api.Errno {
	if m.count() >= 16 {
		m.lost = true
		return api.ErrFull
	}
	m.came = append(m.came, b)
	return api.OK
}

func (m *model) wrong(offset uint64, width int) api.Errno {
	if offset > 15 {
		return api.ErrDecode
	}
	if width != 4 || offset != 0 && offset != 4 && offset != 8 && offset != 12 {
		return api.ErrWidth
	}
	return api.OK
}

func (m *model) load(offset uint64, width int) (uint64, api.Errno) {
	if e := m.wrong(offset, width); e != api.OK {
		return 0, e
	}
	switch offset {
	case 4:
		return m.state(), api.OK
	case 8:
		return m.raises(), api.OK
	case 12:
		return uint64(m.count()), api.OK
	}
	if m.count() == 0 {
		return 0, api.OK
	}
	m.taken++
	return uint64(m.came[m.taken-1]), api.OK
}

func (m *model) store(offset uint64, width int, v uint64) api.Errno {
	if e := m.wrong(offset, width); e != api.OK {
		return e
	}
	switch offset {
	case 0:
		m.sent = append(m.sent, byte(v%256))
	case 4:
		if v/2%2 == 1 {
			m.lost = false
		}
	case 8:
		m.may = v%2 == 1
	}
	return api.OK
}

// step does the same with both, and answers whether both answered the same. Of ten steps, often are such by which a byte comes.
func step(r *rand.Rand, u *UART, m *model, often int) bool {
	offset, width := r.Uint64N(5)*4, 4
	if r.IntN(4) == 0 {
		offset, width = r.Uint64()>>(58+r.IntN(4)), r.IntN(10)-1
	}
	if r.IntN(10) < often {
		b := byte(r.Uint32())
		return u.Come(b) == m.come(b)
	}
	if r.IntN(3) == 0 {
		v := r.Uint64()
		return u.Store(offset, width, v) == m.store(offset, width, v)
	}
	got, e := u.Load(offset, width)
	want, f := m.load(offset, width)
	return got == want && e == f
}

func TestRandomSteps(t *testing.T) {
	for seed := range uint64(200) {
		r := rand.New(rand.NewPCG(17, seed))
		var u UART
		var m model
		for i := range 400 {
			if !step(r, &u, &m, 1+int(seed%5)) {
				t.Fatalf("seed %d, step %d: not as the model", seed, i)
			}
			expectAll(t, &u, m.state(), m.raises(), uint64(m.count()), string(m.sent))
			if t.Failed() {
				t.Fatalf("seed %d, step %d", seed, i)
			}
		}
		expectGone(t, &u, m.came[m.taken:]...)
	}
}
