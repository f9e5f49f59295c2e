package xlate

import (
	"slices"
	"testing"

	"arboret/api"
	"arboret/prop"
	"arboret/region"
	"arboret/tree"
)

// The tests of this file are R2's and R3's, of P13.1's and P13.2's calls.

// roomy answers levels with spare room behind each list.
func roomy() api.Tree { return api.Tree{Root: roomyNode(levels().Root)} }

func roomyNode(n api.Node) api.Node {
	c := api.Node{Name: n.Name, Props: make([]api.Prop, 0, len(n.Props)+2), Kids: make([]api.Node, 0, len(n.Kids)+2)}
	for _, p := range n.Props {
		c.Props = append(c.Props, val(p.Name, append(p.Value, "spare"...)[:len(p.Value)]))
	}
	for _, kid := range n.Kids {
		c.Kids = append(c.Kids, roomyNode(kid))
	}
	spare := []api.Prop{cell("spare", 1), cell("spare", 2)}
	return api.Node{Name: c.Name, Props: append(c.Props, spare...)[:len(c.Props)], Kids: append(c.Kids, reg(1), reg(2))[:len(c.Kids)]}
}

// wholeNode answers all of n, as far as its lists' room goes, in memory of its own.
func wholeNode(n api.Node) api.Node {
	c := api.Node{Name: n.Name}
	for _, p := range n.Props[:cap(n.Props)] {
		c.Props = append(c.Props, val(p.Name, slices.Clone(p.Value[:cap(p.Value)])))
	}
	for _, kid := range n.Kids[:cap(n.Kids)] {
		c.Kids = append(c.Kids, wholeNode(kid))
	}
	return c
}

// ask makes all calls, and answers what overwrites the answers, and whether they are as they should be.
func ask(x api.Tree, place []int) (spoil func(), right func() bool) {
	a := x.Root.Kids[1]
	l, _, _ := Ranges(x.Root, a)
	same, _, _ := Ranges(a.Kids[1], a.Kids[1].Kids[1])
	w, _ := Windows(x, place)
	Windows(x, place[:1])
	Windows(x, append(place[:2:2], 1, 0))
	Up(x, place, 1, 1)
	Up(x, place[:2], 8, 8)
	right = func() bool {
		ranges := []Range{{0, 0x1000, 0x100}, {1 << 32, 0x9000, 0x20}}
		windows := []region.Window{{At: 0x1088, Size: 8}, {At: 0x9004, Size: 4}}
		return slices.Equal(l, ranges) && slices.Equal(same, []Range{{0, 0, last}}) && slices.Equal(w, windows)
	}
	spoil = func() {
		clear(l[:cap(l)])
		clear(same[:cap(same)])
		clear(w[:cap(w)])
	}
	return spoil, right
}

func TestWhatIsHandedInIsLeft(t *testing.T) {
	x, want := roomy(), wholeNode(roomy().Root)
	place := append(make([]int, 0, 8), 1, 1, 0, 77)
	spoil, right := ask(x, place[:3])
	if !right() {
		t.Error("the answers are wrong")
	}
	for _, when := range []string{"a call", "its answer"} {
		if !tree.SameNode(wholeNode(x.Root), want) || !slices.Equal(place, []int{1, 1, 0, 77}) {
			t.Errorf("what was handed in, or its spare room, changes with %s", when)
		}
		spoil()
	}
}

func TestWhatIsHandedInIsNotKept(t *testing.T) {
	x, place := roomy(), []int{1, 1, 0}
	_, right := ask(x, place)
	spoil, _ := ask(x, place)
	spoil()
	if !right() {
		t.Error("an answer changes with another one")
	}
	spoilNode(x.Root)
	clear(place)
	if !right() {
		t.Error("an answer changes with what was handed in")
	}
}

func spoilNode(n api.Node) {
	for _, p := range n.Props {
		clear(p.Value)
	}
	for _, kid := range n.Kids {
		spoilNode(kid)
	}
	clear(n.Props)
	clear(n.Kids)
}

func TestAnswersHangOnTheArgumentsAlone(t *testing.T) {
	x := levels()
	for range 3 {
		expectUp(t, "again", x, at(1, 1), 8, 16, 0x1088)
		refuseUp(t, "again", x, at(1, 1), 0x3f, 2, api.ErrRange)
		expectWindows(t, "again", x, at(1, 0), region.Window{At: 0x1004, Size: 4}, region.Window{At: 0x9008, Size: 8})
		refuseWindows(t, "again", x, nil, api.ErrArg)
		expectRanges(t, "again", counting(1, 1), ranging(1, 1), Range{0, 0, last})
		expectNoRanges(t, "again", counting(1, 1), counting(1, 1))
		refuseRanges(t, "again", counting(1, 1), rangingOf(1, 1, prop.FromCells(1, 2)))
	}
}
