package encode

import (
	"bytes"
	"math/rand/v2"
	"testing"

	"arboret/api"
	"arboret/decode"
	"arboret/tree"
)

// The tests of this file are P5.2's, and P1's.

// grower makes trees that are formed, of names that often come again.
type grower struct {
	*rand.Rand
	nodes int
}

const marks = "abcXYZ019,._+-"

func (g *grower) name(most int, more string) string {
	s := ""
	for range 1 + g.IntN(most) {
		s += string((marks + more)[g.IntN(len(marks+more))])
	}
	return s
}

func (g *grower) value() []byte {
	b := make([]byte, g.IntN(1+g.IntN(40)))
	for i := range b {
		b[i] = []byte{0, 0, 1, 2, 3, 4, 9, 0xd0, byte(g.IntN(256))}[g.IntN(9)]
	}
	return b
}

func (g *grower) node(name string, depth int) api.Node {
	n := api.Node{Name: name}
	for range g.IntN(5) {
		s := g.name(1+g.IntN(31), "?#")
		if _, ok := tree.Find(n, s); !ok {
			n.Props = append(n.Props, api.Prop{Name: s, Value: g.value()})
		}
	}
	for range g.IntN(5) {
		s := "_" + g.name(1+g.IntN(30), "")
		if g.IntN(3) == 0 {
			s += "@" + g.name(1+g.IntN(31), "")
		}
		if depth < api.MaxDepth && g.nodes < 60 && tree.Kid(n, s) < 0 {
			g.nodes++
			n.Kids = append(n.Kids, g.node(s, depth+1))
		}
	}
	return n
}

func (g *grower) tree() api.Tree {
	g.nodes = 1
	x := api.Tree{Boot: g.Uint32(), Root: g.node("", 1)}
	for range g.IntN(4) {
		x.Reserves = append(x.Reserves, api.Reserve{At: 1 + g.Uint64N(1<<20), Size: g.Uint64()})
	}
	return x
}

func TestWhatIsEncodedIsDecodedAsTheSame(t *testing.T) {
	g := &grower{Rand: rand.New(rand.NewPCG(5, 2))}
	deep, nodes := 0, 0
	for range 1000 {
		x := g.tree()
		if e := tree.Check(x); e != api.OK {
			t.Fatal(e)
		}
		laid(t, "a tree", x)
		nodes += g.nodes
		deep = max(deep, depth(x.Root))
	}
	if deep < api.MaxDepth || nodes < 10000 {
		t.Errorf("the trees are no test: %d deep, %d nodes", deep, nodes)
	}
}

func depth(n api.Node) int {
	most := 0
	for _, kid := range n.Kids {
		most = max(most, depth(kid))
	}
	return 1 + most
}

// back asks P1 of any bytes; it answers whether a tree came of them.
func back(t *testing.T, b []byte) bool {
	t.Helper()
	x, e := decode.Decode(b)
	if e != api.OK {
		if !tree.Equal(x, api.Tree{}) || Layout(b) {
			t.Errorf("%x: a tree beside the error %v, or a layout", b, e)
		}
		return false
	}
	if e := tree.Check(x); e != api.OK {
		t.Errorf("%x: a tree beyond the limits: %v", b, e)
	}
	c, e := Encode(x)
	if e == api.ErrMany {
		// Its names overlap, so that they are more bytes when each is there once.
		if Layout(b) {
			t.Errorf("%x: Layout answers true of a tree that isn't encoded", b)
		}
		return true
	}
	if y, d := decode.Decode(c); e != api.OK || d != api.OK || !tree.Equal(x, y) {
		t.Errorf("%x: %v isn't decoded as the same: %v; %v, %v", b, x, y, e, d)
	}
	if Layout(b) != bytes.Equal(b, c) {
		t.Errorf("%x: Layout answers %v", b, Layout(b))
	}
	return true
}

func TestThereAndBack(t *testing.T) {
	r := rand.New(rand.NewPCG(5, 1))
	g := &grower{Rand: r}
	trees, others := 0, 0
	for range 500 {
		b := laid(t, "a tree", g.tree())
		if !back(t, b) {
			t.Fatal("what is encoded isn't decoded")
		}
		for range 10 {
			c := bytes.Clone(b)
			for range 1 + r.IntN(3) {
				c[r.IntN(len(c))] = []byte{0, 1, 2, 3, 4, 9, 'a', byte(r.IntN(256))}[r.IntN(8)]
			}
			if back(t, c) {
				trees++
			} else {
				others++
			}
		}
		back(t, b[:r.IntN(len(b))])
	}
	if trees < 500 || others < 500 {
		t.Errorf("the bytes are no test: %d trees, %d errors", trees, others)
	}
}

func FuzzThereAndBack(f *testing.F) {
	b, _ := Encode(full())
	f.Add([]byte(nil))
	f.Add(b)
	f.Fuzz(func(t *testing.T, b []byte) { back(t, b) })
}
