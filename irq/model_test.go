package irq

import (
	"encoding/binary"
	"math/rand/v2"
	"slices"
	"testing"

	"arboret/api"
	"arboret/handle"
	"arboret/path"
)

// The tests of this file hold the calls against a model that takes the chapter's sentences one by one, by layers 6 and 8.

// said answers the cells of n's property of that name, whether n has it, and whether it is cells, so many times the number.
func said(n api.Node, name string, times int) (l []uint32, has, right bool) {
	i := slices.IndexFunc(n.Props, func(p api.Prop) bool { return p.Name == name })
	if i < 0 {
		return nil, false, true
	}
	b := n.Props[i].Value
	for ; len(b) >= 4; b = b[4:] {
		l = append(l, binary.BigEndian.Uint32(b))
	}
	return l, true, len(b) == 0 && len(l)%times == 0
}

func modelParent(x api.Tree, place []int) ([]int, api.Errno) {
	n, e := path.Get(x, place)
	if e != api.OK {
		return nil, e
	}
	if l, has, right := said(n, "interrupt-parent", 1); has {
		if !right || len(l) != 1 {
			return nil, api.ErrForm
		}
		return handle.Find(x, l[0])
	}
	if len(place) == 0 {
		return nil, api.ErrNone
	}
	return modelParent(x, place[:len(place)-1])
}

func modelLines(x api.Tree, place []int) ([]Line, api.Errno) {
	n, e := path.Get(x, place)
	if e != api.OK {
		return nil, e
	}
	var lines []Line
	if l, has, right := said(n, "interrupts-extended", 2); has {
		if !right {
			return nil, api.ErrForm
		}
		for i := 0; i < len(l); i += 2 {
			to, e := handle.Find(x, l[i])
			if e != api.OK {
				return nil, e
			}
			lines = append(lines, Line{to, l[i+1]})
		}
		return lines, api.OK
	}
	l, _, right := said(n, "interrupts", 1)
	if !right {
		return nil, api.ErrForm
	}
	for _, v := range l {
		to, e := modelParent(x, place)
		if e != api.OK {
			return nil, e
		}
		lines = append(lines, Line{to, v})
	}
	return lines, api.OK
}

func modelController(n api.Node) bool {
	_, is, _ := said(n, "interrupt-controller", 1)
	count, _, right := said(n, "#interrupt-cells", 1)
	return is && right && slices.Equal(count, []uint32{1})
}

// modelThrough answers what comes of l at the last one of so many nodes, from the first one on.
func modelThrough(x api.Tree, l Line, nodes int) (Line, api.Errno) {
	if nodes == 0 {
		return Line{}, api.ErrLoop
	}
	n, e := path.Get(x, l.Place)
	if e != api.OK {
		return Line{}, api.ErrNone
	}
	if modelController(n) {
		return l, api.OK
	}
	entries, has, right := said(n, "interrupt-map", 3)
	if !has {
		return Line{}, api.ErrNone
	}
	mask, masked, fine := said(n, "interrupt-map-mask", 1)
	if !masked {
		mask = []uint32{0xffffffff}
	}
	if !right || !fine || len(mask) != 1 {
		return Line{}, api.ErrForm
	}
	for i := 0; i < len(entries); i += 3 {
		if entries[i]&mask[0] != l.Line&mask[0] {
			continue
		}
		to, e := handle.Find(x, entries[i+1])
		if e != api.OK {
			return Line{}, e
		}
		return modelThrough(x, Line{to, entries[i+2]}, nodes-1)
	}
	return Line{}, api.ErrNone
}

// modelRoot answers the way of l by no more than so many controllers, behind those ahead.
func modelRoot(x api.Tree, l Line, ahead []Line) ([]Line, api.Errno) {
	c, e := modelThrough(x, l, api.MaxDepth)
	if e != api.OK {
		return nil, e
	}
	if len(ahead) == api.MaxDepth {
		return nil, api.ErrLoop
	}
	way := append(ahead, c)
	own, e := modelLines(x, c.Place)
	if e != api.OK {
		return nil, e
	}
	if len(own) == 0 {
		return way, api.OK
	}
	return modelRoot(x, own[0], way)
}

// maker makes trees, of which the most are nearly right.
type maker struct {
	*rand.Rand
	handles int
	wrong   int
}

// rarely answers true once of so many times, and then only in a tree that may be wrong.
func (m *maker) rarely(times int) bool { return m.wrong > 0 && m.IntN(times) == 0 }

func (m *maker) number() uint32 {
	if m.IntN(8) == 0 {
		return m.Uint32()
	}
	return m.Uint32N(6)
}

func (m *maker) handle() uint32 {
	if m.rarely(12) {
		return m.Uint32N(uint32(m.handles) + 4)
	}
	return 1 + m.Uint32N(uint32(m.handles))
}

// list answers a property of some rows of cells, some of which are handles.
func (m *maker) list(name string, rows int, isHandle ...bool) api.Prop {
	var l []uint32
	for range rows {
		for _, is := range isHandle {
			if is {
				l = append(l, m.handle())
			} else {
				l = append(l, m.number())
			}
		}
	}
	p := cells(name, l...)
	if m.rarely(20) {
		p.Value = append(p.Value, make([]byte, 1+m.IntN(8))...)
	}
	return p
}

// lines answers properties that say lines, in more or less all ways.
func (m *maker) lines() []api.Prop {
	var l []api.Prop
	if m.IntN(3) == 0 {
		l = append(l, m.list("interrupt-parent", 1, true))
	}
	if m.IntN(3) == 0 {
		l = append(l, m.list("interrupts", m.IntN(4), false))
	}
	if m.IntN(3) == 0 {
		l = append(l, m.list("interrupts-extended", m.IntN(4), true, false))
	}
	return l
}

// kind answers properties of a controller, a nexus, something like them, or neither.
func (m *maker) kind() []api.Prop {
	is, count := val("interrupt-controller", nil), cells("#interrupt-cells", 1)
	switch m.IntN(8) {
	case 0, 1, 2:
		if m.rarely(8) {
			return []api.Prop{m.list("#interrupt-cells", m.IntN(3), false), is, m.list("interrupt-map", 3, false, true, false)}
		}
		return []api.Prop{is, count}
	case 3, 4, 5:
		l := []api.Prop{m.list("interrupt-map", m.IntN(9), false, true, false)}
		if m.IntN(2) == 0 {
			l = append(l, cells("interrupt-map-mask", m.Uint32N(8)))
		}
		if m.rarely(12) {
			l = append(l, m.list("interrupt-map-mask", m.IntN(3), false))
		}
		return l
	}
	return nil
}

func (m *maker) node(levels int) api.Node {
	n := api.Node{Name: "n", Props: append(m.kind(), m.lines()...)}
	if m.IntN(4) > 0 {
		m.handles++
		n.Props = append(n.Props, cells("phandle", uint32(m.handles)))
	}
	if m.rarely(200) {
		n.Props = append(n.Props, m.list("phandle", m.IntN(3), true))
	}
	m.Shuffle(len(n.Props), func(i, j int) { n.Props[i], n.Props[j] = n.Props[j], n.Props[i] })
	for range m.IntN(4) {
		if levels > 0 {
			n.Kids = append(n.Kids, m.node(levels-1))
		}
	}
	return n
}

func (m *maker) tree() api.Tree {
	// Some have handles yet that no node will have.
	m.handles = 1 + m.IntN(4)
	m.wrong = m.IntN(2)
	x := rooted()
	for range 1 + m.IntN(6) {
		x.Root.Kids = append(x.Root.Kids, m.node(3))
	}
	if m.IntN(2) == 0 {
		x.Root.Props = m.lines()
	}
	// Of the first ones there is one, so that the most handles are somebody's.
	taken, _ := handle.Index(x)
	for h := range uint32(5) {
		if h > 0 && !slices.ContainsFunc(taken, func(r handle.Ref) bool { return r.Handle == h }) {
			x.Root.Kids = append(x.Root.Kids, handled(h, m.kind()...))
		}
	}
	return x
}

// tally counts how often the calls answered which error, and how far the ways went.
type tally map[[2]int]int

func (y tally) add(t *testing.T, call int, e api.Errno, same bool, what ...any) {
	t.Helper()
	if !same {
		t.Error(what...)
	}
	y[[2]int{call, int(e)}]++
}

func (y tally) hold(t *testing.T, x api.Tree, place []int, numbers ...uint32) {
	t.Helper()
	p, e := Parent(x, place)
	wantPlace, want := modelParent(x, place)
	y.add(t, 0, e, e == want && slices.Equal(p, wantPlace), "Parent", place, p, e, wantPlace, want)
	l, e := Lines(x, place)
	wantLines, want := modelLines(x, place)
	y.add(t, 1, e, e == want && slices.EqualFunc(l, wantLines, sameLine), "Lines", place, l, e, wantLines, want)
	for _, v := range numbers {
		from := Line{slices.Clone(place), v}
		c, e := Through(x, from)
		wantLine, want := modelThrough(x, from, api.MaxDepth)
		y.add(t, 2, e, e == want && sameLine(c, wantLine), "Through", from, c, e, wantLine, want)
		c, way, e := Root(x, from)
		wantWay, want := modelRoot(x, from, nil)
		wantLine = Line{}
		if want == api.OK {
			wantLine = wantWay[len(wantWay)-1]
		}
		y.add(t, 3, e, e == want && sameLine(c, wantLine) && slices.EqualFunc(way, wantWay, sameLine), "Root", from, c, way, e, wantWay, want)
		y[[2]int{4, len(way)}]++
	}
}

func TestRandomTrees(t *testing.T) {
	y := tally{}
	m := &maker{Rand: rand.New(rand.NewPCG(14, 2))}
	for range 600 {
		x := m.tree()
		for _, place := range path.All(x) {
			n, _ := path.Get(x, place)
			if Controller(n) != modelController(n) {
				t.Error("Controller", n)
			}
			y.hold(t, x, place, m.number(), m.number(), m.Uint32())
			y.hold(t, x, append(slices.Clone(place), m.IntN(5)-1), m.number())
		}
		if t.Failed() {
			t.Fatal(x)
		}
	}
	// What the trees are to be good for.
	for call, all := range [][]api.Errno{
		{api.OK, api.ErrForm, api.ErrHandle, api.ErrTwice, api.ErrNone}, {api.OK, api.ErrForm, api.ErrHandle, api.ErrTwice, api.ErrNone},
		{api.OK, api.ErrForm, api.ErrHandle, api.ErrTwice, api.ErrNone, api.ErrLoop}, {api.OK, api.ErrForm, api.ErrHandle, api.ErrTwice, api.ErrNone, api.ErrLoop},
	} {
		for _, e := range all {
			if y[[2]int{call, int(e)}] < 20 {
				t.Errorf("call %d answers %v only %d times", call, e, y[[2]int{call, int(e)}])
			}
		}
	}
	for long := 1; long < 4; long++ {
		if y[[2]int{4, long}] < 20 {
			t.Errorf("only %d ways of %d", y[[2]int{4, long}], long)
		}
	}
}
