package irq

import (
	"slices"
	"testing"

	"arboret/api"
	"arboret/tree"
)

// The tests of this file are R2's and R3's, of P14.1's and P14.2's calls.

// levels is a tree of lines of all kinds, at controllers of several levels.
func levels() api.Tree {
	far := with(having(cells("interrupt-parent", 7)), having(cells("interrupts", 5, 2)), ctrl(3, cells("interrupts", 6)))
	return rooted(ctrl(1), with(having(), far), masked(mapped(7, 5, 3, 50, 6, 1, 60), 7), having(cells("interrupts-extended", 3, 8, 1, 9)))
}

// roomy answers n with spare room behind each list.
func roomy(n api.Node) api.Node {
	c := api.Node{Name: n.Name, Props: make([]api.Prop, 0, len(n.Props)+2), Kids: make([]api.Node, 0, len(n.Kids)+2)}
	for _, p := range n.Props {
		c.Props = append(c.Props, val(p.Name, append(p.Value, "spare"...)[:len(p.Value)]))
	}
	for _, kid := range n.Kids {
		c.Kids = append(c.Kids, roomy(kid))
	}
	spare := []api.Prop{cells("interrupt-controller", 1), cells("phandle", 2)}
	return api.Node{Name: c.Name, Props: append(c.Props, spare...)[:len(c.Props)], Kids: append(c.Kids, ctrl(1), ctrl(2))[:len(c.Kids)]}
}

// whole answers all of n, as far as its lists' room goes, in memory of its own.
func whole(n api.Node) api.Node {
	c := api.Node{Name: n.Name}
	for _, p := range n.Props[:cap(n.Props)] {
		c.Props = append(c.Props, val(p.Name, slices.Clone(p.Value[:cap(p.Value)])))
	}
	for _, kid := range n.Kids[:cap(n.Kids)] {
		c.Kids = append(c.Kids, whole(kid))
	}
	return c
}

// story is what the calls answer of levels.
type story struct {
	parent  []int
	lines   []Line
	pairs   []Line
	own     Line
	through Line
	root    Line
	way     []Line
}

func ask(x api.Tree, place []int) *story {
	var s story
	s.parent, _ = Parent(x, place)
	s.lines, _ = Lines(x, place)
	s.pairs, _ = Lines(x, at(3))
	s.own, _ = Through(x, Line{Place: append(place[:2:2], 1), Line: 3})
	s.through, _ = Through(x, Line{Place: place[:0], Line: 5})
	s.through, _ = Through(x, line(5, 2))
	s.root, s.way, _ = Root(x, Line{Place: at(2), Line: 5})
	Parent(x, place[:2])
	Lines(x, append(place[:2:2], 7))
	Controller(x.Root.Kids[0])
	return &s
}

func (s *story) right() bool {
	same := func(a []Line, b ...Line) bool { return slices.EqualFunc(a, b, sameLine) }
	return slices.Equal(s.parent, at(2)) && same(s.lines, line(5, 2), line(2, 2)) && same(s.pairs, line(8, 1, 0, 1), line(9, 0)) &&
		same([]Line{s.own, s.through, s.root}, line(3, 1, 0, 1), line(50, 1, 0, 1), line(60, 0)) &&
		same(s.way, line(50, 1, 0, 1), line(60, 0))
}

// lists answers all places of the answers, as far as their room goes.
func (s *story) lists() [][]int {
	l := [][]int{s.parent, s.own.Place, s.through.Place, s.root.Place}
	for _, x := range slices.Concat(s.lines, s.pairs, s.way) {
		l = append(l, x.Place)
	}
	for i := range l {
		l[i] = l[i][:cap(l[i])]
	}
	return l
}

func (s *story) spoil() {
	for _, place := range s.lists() {
		for i := range place {
			place[i] = -9
		}
	}
	for _, l := range [][]Line{s.lines, s.pairs, s.way} {
		clear(l[:cap(l)])
	}
}

func TestWhatIsHandedInIsLeft(t *testing.T) {
	x := api.Tree{Root: roomy(levels().Root)}
	want := whole(x.Root)
	place := append(make([]int, 0, 8), 1, 0, 0, 77)
	s := ask(x, place[:3])
	if !s.right() {
		t.Error("the answers are wrong")
	}
	for _, when := range []string{"a call", "its answer"} {
		if !tree.SameNode(whole(x.Root), want) || !slices.Equal(place, []int{1, 0, 0, 77}) {
			t.Errorf("what was handed in, or its spare room, changes with %s", when)
		}
		s.spoil()
	}
}

func TestWhatIsHandedInIsNotKept(t *testing.T) {
	x, place := api.Tree{Root: roomy(levels().Root)}, []int{1, 0, 0}
	s := ask(x, place)
	ask(x, place).spoil()
	if !s.right() {
		t.Error("an answer changes with another one")
	}
	spoilNode(x.Root)
	clear(place)
	if !s.right() {
		t.Error("an answer changes with what was handed in")
	}
}

func spoilNode(n api.Node) {
	for _, p := range n.Props {
		clear(p.Value)
	}
	for _, kid := range n.Kids {
		spoilNode(kid)
	}
	clear(n.Props)
	clear(n.Kids)
}

func TestNoTwoListsShareMemory(t *testing.T) {
	x := levels()
	s := ask(x, at(1, 0, 0))
	for i, place := range s.lists() {
		for j := range place {
			place[j] = 100 + i
		}
	}
	for i, place := range s.lists() {
		if slices.ContainsFunc(place, func(v int) bool { return v != 100+i }) {
			t.Errorf("place %d shares memory with another one: %v", i, place)
		}
	}
}

// The place of a line that is answered as it was asked is not the one that was handed in.
func TestThroughAnswersAPlaceOfItsOwn(t *testing.T) {
	x := rooted(with(ctrl(1), ctrl(2)))
	l := line(4, 0, 0)
	got, _ := Through(x, l)
	root, way, _ := Root(x, l)
	l.Place[0], got.Place[0], root.Place[0] = 7, 8, 9
	if l.Place[0] != 7 || got.Place[0] != 8 || root.Place[0] != 9 || !sameLine(way[0], line(4, 0, 0)) {
		t.Error(l, got, root, way)
	}
}

func TestAnswersHangOnTheArgumentsAlone(t *testing.T) {
	x := levels()
	for range 3 {
		expectParent(t, "again", x, at(1, 0, 0), 2)
		refuseParent(t, "again", x, at(3), api.ErrNone)
		expectLines(t, "again", x, at(3), line(8, 1, 0, 1), line(9, 0))
		refuseLines(t, "again", rooted(having(cells("interrupts-extended", 1, 1))), at(0), api.ErrHandle)
		expectThrough(t, "again", x, line(13, 2), line(50, 1, 0, 1))
		refuseBoth(t, "again", x, line(4, 2), api.ErrNone)
		expectRoot(t, "again", x, line(5, 2), line(50, 1, 0, 1), line(60, 0))
	}
}
