package xlate

import (
	"math/big"
	"math/rand/v2"
	"slices"
	"testing"

	"arboret/api"
	"arboret/region"
)

// The tests of this file hold the calls against a model that reads bytes, and reckons with whole numbers of any size.

func find(n api.Node, name string) ([]byte, bool) {
	i := slices.IndexFunc(n.Props, func(p api.Prop) bool { return p.Name == name })
	if i < 0 {
		return nil, false
	}
	return n.Props[i].Value, true
}

func modelCount(n api.Node, name string, unsaid int) (int, bool) {
	b, ok := find(n, name)
	if !ok {
		return unsaid, true
	}
	if len(b) != 4 || b[0]|b[1]|b[2] != 0 || b[3] > 2 {
		return 0, false
	}
	return int(b[3]), true
}

func modelCounts(n api.Node) (int, int, bool) {
	a, ok := modelCount(n, "#address-cells", 2)
	s, fine := modelCount(n, "#size-cells", 1)
	return a, s, ok && fine
}

// rows answers the numbers that the bytes are, so many of them a row, each of its own cells.
func rows(b []byte, cells ...int) ([][]*big.Int, bool) {
	var l [][]*big.Int
	for len(b) > 0 {
		var row []*big.Int
		for _, c := range cells {
			if len(b) < 4*c {
				return nil, false
			}
			row = append(row, new(big.Int).SetBytes(b[:4*c]))
			b = b[4*c:]
		}
		l = append(l, row)
	}
	return l, true
}

func modelRanges(parent, n api.Node) ([][]*big.Int, bool, api.Errno) {
	b, ok := find(n, "ranges")
	if !ok {
		return nil, false, api.OK
	}
	below, size, ok := modelCounts(n)
	above, _, fine := modelCounts(parent)
	if !ok || !fine || below == 0 || above == 0 {
		return nil, false, api.ErrCells
	}
	if len(b) == 0 {
		return [][]*big.Int{{new(big.Int), new(big.Int), whole(last)}}, true, api.OK
	}
	l, ok := rows(b, below, above, size)
	if !ok {
		return nil, false, api.ErrCells
	}
	return l, true, api.OK
}

func whole(v uint64) *big.Int { return new(big.Int).SetUint64(v) }

func sum(a, b *big.Int) *big.Int { return new(big.Int).Add(a, b) }

// isThere answers whether an end is no further than 2^64.
func isThere(end *big.Int) bool { return end.Cmp(new(big.Int).Lsh(big.NewInt(1), 64)) <= 0 }

// modelUp asks one level, and then its parent, as the chapter's sentence goes.
func modelUp(t api.Tree, place []int, at, size *big.Int) (*big.Int, api.Errno) {
	n, parent, ok := modelGet(t, place)
	if !ok {
		return nil, api.ErrNone
	}
	if len(place) == 0 {
		return at, api.OK
	}
	l, _, e := modelRanges(parent, n)
	if e != api.OK {
		return nil, e
	}
	for _, row := range l {
		end, to := sum(row[0], row[2]), sum(at, size)
		if size.Sign() == 0 || !isThere(end) || !isThere(to) || at.Cmp(row[0]) < 0 || to.Cmp(end) > 0 {
			continue
		}
		above := sum(new(big.Int).Sub(at, row[0]), row[1])
		if !isThere(sum(above, size)) {
			return nil, api.ErrRange
		}
		return modelUp(t, place[:len(place)-1], above, size)
	}
	return nil, api.ErrRange
}

func modelGet(t api.Tree, place []int) (n, parent api.Node, ok bool) {
	n = t.Root
	for _, i := range place {
		if i < 0 || i >= len(n.Kids) {
			return n, parent, false
		}
		n, parent = n.Kids[i], n
	}
	return n, parent, true
}

func modelWindows(t api.Tree, place []int) ([]region.Window, api.Errno) {
	if len(place) == 0 {
		return nil, api.ErrArg
	}
	n, parent, ok := modelGet(t, place)
	if !ok {
		return nil, api.ErrNone
	}
	b, ok := find(n, "reg")
	if !ok {
		return nil, api.OK
	}
	a, s, ok := modelCounts(parent)
	if !ok || a == 0 {
		return nil, api.ErrCells
	}
	rows, ok := rows(b, a, s)
	if !ok {
		return nil, api.ErrCells
	}
	var l []region.Window
	for _, row := range rows {
		at, e := modelUp(t, place[:len(place)-1], row[0], row[1])
		if e != api.OK {
			return nil, e
		}
		l = append(l, region.Window{At: at.Uint64(), Size: row[1].Uint64()})
	}
	return l, api.OK
}

// maker makes trees, of which the most are nearly right.
type maker struct{ *rand.Rand }

// number answers one that is small, or near the end of one or two cells.
func (m maker) number() uint64 {
	v := m.Uint64N(64)
	switch m.IntN(8) {
	case 0:
		return last - v
	case 1:
		return 1<<32 - v
	case 2:
		return m.Uint64() >> m.IntN(64)
	}
	return v
}

// put appends a number to b, in so many cells.
func put(b []byte, v uint64, cells int) []byte {
	for i := range 4 * cells {
		b = append(b, byte(v>>(8*(4*cells-1-i))))
	}
	return b
}

func (m maker) table(cells ...int) []byte {
	b := []byte{}
	for range m.IntN(4) {
		for i, c := range cells {
			v := m.number()
			// Sizes are great mostly, as else little would be seen.
			if i == 2 && m.IntN(3) > 0 {
				v = last - m.Uint64N(64)
			}
			if i == 2 && m.IntN(3) > 0 {
				v = 64 + m.Uint64N(1<<20)
			}
			b = put(b, v, c)
		}
	}
	if m.IntN(40) == 0 {
		b = append(b, make([]byte, 1+m.IntN(8))...)
	}
	return b
}

func (m maker) count() int {
	if m.IntN(30) == 0 {
		return m.IntN(5)
	}
	return 1 + m.IntN(2)
}

// node answers one with so many levels, below a parent of so many cells.
func (m maker) node(levels, address, size int) api.Node {
	own, ownSize := m.count(), m.count()
	n := having(cell("#address-cells", uint32(own)), cell("#size-cells", uint32(ownSize)))
	switch m.IntN(12) {
	case 0:
		n.Props, own, ownSize = nil, 2, 1
	case 1:
		n.Props[0].Value = make([]byte, m.IntN(9))
	}
	if m.IntN(10) > 0 {
		n.Props = append(n.Props, val("ranges", m.table(own, address, ownSize)))
	}
	if m.IntN(4) > 0 {
		n.Props = append(n.Props, val("reg", m.table(address, size)))
	}
	m.Shuffle(len(n.Props), func(i, j int) { n.Props[i], n.Props[j] = n.Props[j], n.Props[i] })
	for levels > 1 && len(n.Kids) < 2 {
		n.Kids = append(n.Kids, m.node(levels-1, own, ownSize))
	}
	return n
}

func (m maker) place() []int {
	var l []int
	for range m.IntN(5) {
		l = append(l, m.IntN(2))
	}
	if len(l) > 0 && m.IntN(10) == 0 {
		l[m.IntN(len(l))] = m.IntN(4) - 1
	}
	return l
}

// check holds one node's answers against the model's.
func (m maker) check(t *testing.T, x api.Tree, place []int) (api.Errno, api.Errno, int) {
	t.Helper()
	at, size := m.number(), m.number()
	want, f := modelUp(x, place, whole(at), whole(size))
	v, e := Up(x, place, at, size)
	if e != f || f == api.OK && v != want.Uint64() || f != api.OK && v != 0 {
		t.Fatalf("Up(%v, %v, %#x, %#x) = %#x, %v, not %v, %v", x, place, at, size, v, e, want, f)
	}
	l, g := modelWindows(x, place)
	got, e := Windows(x, place)
	if e != g || !slices.Equal(got, l) {
		t.Fatalf("Windows(%v, %v) = %v, %v, not %v, %v", x, place, got, e, l, g)
	}
	return f, g, len(l)
}

func TestRandomTrees(t *testing.T) {
	m := maker{rand.New(rand.NewPCG(13, 13))}
	up, windows := make(map[api.Errno]int), make(map[api.Errno]int)
	var deep, several int
	for range 40000 {
		x := api.Tree{Root: m.node(4, 2, 1)}
		place := m.place()
		e, f, many := m.check(t, x, place)
		up[e]++
		windows[f]++
		if e == api.OK && len(place) > 1 {
			deep++
		}
		if many > 1 && len(place) > 1 {
			several++
		}
	}
	for _, e := range []api.Errno{api.OK, api.ErrNone, api.ErrCells, api.ErrRange} {
		if up[e] < 500 || windows[e] < 500 {
			t.Errorf("%v came %d times of Up, %d times of Windows", e, up[e], windows[e])
		}
	}
	if deep < 500 || several < 100 {
		t.Errorf("only %d addresses through several levels, and %d times several windows", deep, several)
	}
}

func TestRandomRanges(t *testing.T) {
	m := maker{rand.New(rand.NewPCG(13, 1))}
	var right, wrong int
	for range 20000 {
		parent := m.node(1, 2, 1)
		n := m.node(1, m.count(), 1)
		rows, has, f := modelRanges(parent, n)
		l, ok, e := Ranges(parent, n)
		var want []Range
		for _, row := range rows {
			want = append(want, Range{row[0].Uint64(), row[1].Uint64(), row[2].Uint64()})
		}
		if e != f || ok != has || !slices.Equal(l, want) {
			t.Fatalf("Ranges(%v, %v) = %v, %v, %v, not %v, %v, %v", parent, n, l, ok, e, want, has, f)
		}
		if len(want) > 1 {
			right++
		}
		if f != api.OK {
			wrong++
		}
	}
	if right < 1000 || wrong < 1000 {
		t.Errorf("only %d nodes with several ranges, and %d that are wrong", right, wrong)
	}
}
