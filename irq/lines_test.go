package irq

import (
	"slices"
	"strconv"
	"testing"

	"arboret/api"
	"arboret/prop"
)

// The tests of this file are P14.1's.

const most = api.MaxHandle

func val(name string, value []byte) api.Prop { return api.Prop{Name: name, Value: value} }

func cells(name string, l ...uint32) api.Prop { return val(name, prop.FromCells(l...)) }

func having(props ...api.Prop) api.Node { return api.Node{Name: "n", Props: props} }

// handled answers a node with that handle, among other properties.
func handled(h uint32, props ...api.Prop) api.Node {
	return having(append([]api.Prop{val("status", nil), cells("phandle", h)}, props...)...)
}

// ctrl answers a controller with that handle.
func ctrl(h uint32, props ...api.Prop) api.Node {
	return handled(h, append([]api.Prop{cells("#interrupt-cells", 1), val("interrupt-controller", nil)}, props...)...)
}

func with(n api.Node, kids ...api.Node) api.Node {
	n.Kids = append(slices.Clone(n.Kids), kids...)
	return n
}

// rooted answers a tree with these right below a root without properties.
func rooted(kids ...api.Node) api.Tree { return api.Tree{Root: api.Node{Kids: kids}} }

func at(place ...int) []int { return place }

func line(number uint32, place ...int) Line { return Line{Place: place, Line: number} }

func sameLine(a, b Line) bool { return a.Line == b.Line && slices.Equal(a.Place, b.Place) }

func expectParent(t *testing.T, what string, x api.Tree, place []int, want ...int) {
	t.Helper()
	if got, e := Parent(x, place); !slices.Equal(got, want) || e != api.OK {
		t.Errorf("%s: Parent(%v) = %v, %v, not %v", what, place, got, e, want)
	}
}

func refuseParent(t *testing.T, what string, x api.Tree, place []int, want api.Errno) {
	t.Helper()
	if got, e := Parent(x, place); len(got) != 0 || e != want {
		t.Errorf("%s: Parent(%v) = %v, %v, not %v", what, place, got, e, want)
	}
}

func expectLines(t *testing.T, what string, x api.Tree, place []int, want ...Line) {
	t.Helper()
	if got, e := Lines(x, place); !slices.EqualFunc(got, want, sameLine) || e != api.OK {
		t.Errorf("%s: Lines(%v) = %v, %v, not %v", what, place, got, e, want)
	}
}

func refuseLines(t *testing.T, what string, x api.Tree, place []int, want api.Errno) {
	t.Helper()
	if got, e := Lines(x, place); len(got) != 0 || e != want {
		t.Errorf("%s: Lines(%v) = %v, %v, not %v", what, place, got, e, want)
	}
}

// family is a tree in which some say a parent of their own, and others have that of a node above.
func family() api.Tree {
	own := having(cells("interrupt-parent", 3))
	none := having(cells("reg", 7))
	bus := with(handled(2, cells("interrupt-parent", most)), none, own, with(none, none), with(own, none))
	return rooted(handled(3), bus, with(none, none), handled(most), having(cells("interrupt-parent", 5)), handled(5, cells("interrupt-parent", 5)))
}

func TestParent(t *testing.T) {
	x := family()
	expectParent(t, "its own", x, at(1), 3)
	expectParent(t, "of the node above", x, at(1, 0), 3)
	expectParent(t, "its own, not that of the node above", x, at(1, 1), 0)
	expectParent(t, "of one further above", x, at(1, 2, 0), 3)
	expectParent(t, "of the next one above alone", x, at(1, 3, 0), 0)
	expectParent(t, "one further on", x, at(4), 5)
	expectParent(t, "itself", x, at(5), 5)
	refuseParent(t, "none at all", x, at(2, 0), api.ErrNone)
	refuseParent(t, "none of a node right below the root", x, at(0), api.ErrNone)
	refuseParent(t, "none of the root", x, nil, api.ErrNone)
	x.Root.Props = []api.Prop{cells("phandle", 9), cells("interrupt-parent", 2)}
	expectParent(t, "the root's own", x, nil, 1)
	expectParent(t, "the root's own", x, []int{}, 1)
	expectParent(t, "of the root", x, at(2, 0), 1)
	expectParent(t, "still of the next one above", x, at(1, 3, 0), 0)
	x.Root.Props[1] = cells("interrupt-parent", 9)
	expectParent(t, "the root", x, at(2, 0))
	expectParent(t, "the root", x, nil)
	x.Root.Props[1] = cells("interrupt-parent", 3)
	// A deep one is meant by its handle as any other.
	x.Root.Kids[0], x.Root.Kids[1].Kids[3].Kids[0] = having(), handled(3)
	expectParent(t, "a deep one", x, at(2, 0), 1, 3, 0)
}

func TestParentIsWrong(t *testing.T) {
	wrong := func(l ...uint32) api.Node { return having(cells("interrupt-parent", l...)) }
	for _, c := range []struct {
		what string
		n    api.Node
		want api.Errno
	}{
		{"no cell", wrong(), api.ErrForm},
		{"no value", having(val("interrupt-parent", nil)), api.ErrForm},
		{"two cells", wrong(2, 2), api.ErrForm},
		{"three bytes", having(val("interrupt-parent", []byte{0, 0, 2})), api.ErrForm},
		{"five bytes", having(val("interrupt-parent", []byte{0, 0, 0, 2, 0})), api.ErrForm},
		{"nobody's", wrong(4), api.ErrHandle},
		{"0", wrong(0), api.ErrHandle},
		{"the greatest cell", wrong(1<<32 - 1), api.ErrHandle},
		{"the first one of two", having(cells("interrupt-parent", 4), cells("interrupt-parent", 2)), api.ErrHandle},
	} {
		right := having(cells("interrupt-parent", 2))
		x := rooted(with(c.n, having(), right), handled(2), with(right, c.n))
		refuseParent(t, c.what, x, at(0), c.want)
		refuseParent(t, c.what+", above", x, at(0, 0), c.want)
		refuseParent(t, c.what+", below one that is right", x, at(2, 0), c.want)
		expectParent(t, c.what+", further above", x, at(0, 1), 1)
		expectParent(t, c.what+", below", x, at(2), 1)
	}
}

// badHandles answers the nodes that make layer 8 answer an error.
func badHandles() map[string]struct {
	node api.Node
	want api.Errno
} {
	return map[string]struct {
		node api.Node
		want api.Errno
	}{
		"no cell":   {having(cells("phandle")), api.ErrForm},
		"two cells": {having(cells("phandle", 8, 9)), api.ErrForm},
		"0":         {handled(0), api.ErrHandle},
		"too great": {handled(most + 1), api.ErrHandle},
		"twice":     {handled(2), api.ErrTwice},
	}
}

func TestParentOfWrongHandles(t *testing.T) {
	for what, c := range badHandles() {
		x := rooted(handled(2, cells("interrupt-parent", 2)), having(), having(cells("interrupt-parent", 4)), having(cells("interrupt-parent")), c.node)
		refuseParent(t, what, x, at(0), c.want)
		refuseParent(t, what+", of a handle that is nobody's", x, at(2), c.want)
		refuseParent(t, what+", but no cell is asked first", x, at(3), api.ErrForm)
		refuseParent(t, what+", but no handle is asked", x, at(1), api.ErrNone)
		refuseParent(t, what+", but no node is asked first", x, at(5), api.ErrNone)
	}
}

func TestNoNode(t *testing.T) {
	x := family()
	x.Root.Props = []api.Prop{cells("interrupts-extended", 1), cells("interrupt-parent")}
	for _, place := range [][]int{at(6), at(-1), at(0, 0), at(1, 4), at(1, -1), at(1, 2, 1), at(-1, 0), at(1 << 62), at(-1 << 63), make([]int, api.MaxDepth)} {
		refuseParent(t, "no node", x, place, api.ErrNone)
		refuseLines(t, "no node", x, place, api.ErrNone)
		refuseLines(t, "no tree", api.Tree{}, place, api.ErrNone)
		refuseParent(t, "no tree", api.Tree{}, place, api.ErrNone)
	}
	for _, place := range [][]int{make([]int, api.MaxDepth+1), make([]int, 1<<16), append(at(-1), make([]int, api.MaxDepth)...)} {
		refuseParent(t, "too deep", x, place, api.ErrDeep)
		refuseLines(t, "too deep", x, place, api.ErrDeep)
	}
}

func TestLinesOfPairs(t *testing.T) {
	x := rooted(
		having(cells("interrupts-extended", 1, 5)),
		having(cells("interrupts-extended", 2, 1<<32-1, 1, 0, 2, 7, 1, 0)),
		having(cells("interrupts-extended")),
		having(val("interrupts-extended", nil), cells("interrupts", 1)),
		having(cells("interrupts", 4, 5), cells("interrupt-parent", 1), cells("interrupts-extended", 2, 6)),
		with(handled(1), handled(2, cells("interrupts-extended", 2, 3))),
		having(cells("interrupts-extended", 1, 8), cells("interrupts-extended", 2, 9)),
	)
	expectLines(t, "one", x, at(0), line(5, 5))
	expectLines(t, "several, in their order", x, at(1), line(1<<32-1, 5, 0), line(0, 5), line(7, 5, 0), line(0, 5))
	expectLines(t, "no pair", x, at(2))
	expectLines(t, "no pair, whatever interrupts are", x, at(3))
	expectLines(t, "and interrupts", x, at(4), line(6, 5, 0))
	expectLines(t, "at itself", x, at(5, 0), line(3, 5, 0))
	expectLines(t, "the first property of the name", x, at(6), line(8, 5))
	expectLines(t, "neither property", x, at(5))
	x.Root.Props = []api.Prop{cells("interrupts-extended", 3, 4), cells("phandle", 3)}
	expectLines(t, "the root's, at the root", x, nil, line(4))
	// Those below it have not the lines of a node above.
	expectLines(t, "below it", x, at(5))
}

func TestLinesOfCells(t *testing.T) {
	x := family()
	lined := cells("interrupts", 9, 0, 9, 1<<32-1)
	for _, place := range [][]int{at(1), at(1, 0), at(1, 2, 0)} {
		y := family()
		n := nodeAt(&y.Root, place)
		n.Props = append(n.Props, lined)
		expectLines(t, "at the parent", y, place, line(9, 3), line(0, 3), line(9, 3), line(1<<32-1, 3))
	}
	n := nodeAt(&x.Root, at(1, 3, 0))
	n.Props = append(n.Props, cells("interrupts", 6))
	expectLines(t, "one", x, at(1, 3, 0), line(6, 0))
	n.Props[len(n.Props)-1] = cells("interrupts")
	expectLines(t, "no cell", x, at(1, 3, 0))
	x = rooted(having(val("interrupts", nil)), having(cells("interrupts", 1)), having(), having(cells("interrupt-parent", 7)))
	expectLines(t, "no cell, and no parent", x, at(0))
	refuseLines(t, "no parent", x, at(1), api.ErrNone)
	expectLines(t, "neither property", x, at(2))
	expectLines(t, "neither property, and a wrong parent", x, at(3))
	expectLines(t, "neither property", api.Tree{}, nil)
}

func nodeAt(n *api.Node, place []int) *api.Node {
	for _, i := range place {
		n = &n.Kids[i]
	}
	return n
}

func TestLinesThatAreWrong(t *testing.T) {
	parent := func(l ...uint32) api.Prop { return cells("interrupt-parent", l...) }
	pairs := func(l ...uint32) api.Prop { return cells("interrupts-extended", l...) }
	right := cells("interrupts", 1)
	for _, c := range []struct {
		what  string
		props []api.Prop
		want  api.Errno
	}{
		{"a handle alone", []api.Prop{pairs(2)}, api.ErrForm},
		{"three cells", []api.Prop{pairs(2, 1, 2)}, api.ErrForm},
		{"five cells", []api.Prop{pairs(2, 1, 2, 1, 2)}, api.ErrForm},
		{"seven bytes", []api.Prop{val("interrupts-extended", make([]byte, 7))}, api.ErrForm},
		{"twelve bytes of pairs", []api.Prop{val("interrupts-extended", make([]byte, 12))}, api.ErrForm},
		{"wrong pairs, right interrupts", []api.Prop{right, parent(2), pairs(2)}, api.ErrForm},
		{"no cells ahead of a wrong handle", []api.Prop{pairs(4, 1, 2)}, api.ErrForm},
		{"nobody's handle", []api.Prop{pairs(4, 1)}, api.ErrHandle},
		{"the second one is nobody's", []api.Prop{pairs(2, 1, 4, 1)}, api.ErrHandle},
		{"the handle 0", []api.Prop{pairs(0, 1)}, api.ErrHandle},
		{"the handle that no one may have", []api.Prop{pairs(most+1, 1)}, api.ErrHandle},
		{"a wrong handle, right interrupts", []api.Prop{right, parent(2), pairs(4, 1)}, api.ErrHandle},
		{"no cells", []api.Prop{parent(2), val("interrupts", []byte{1, 2, 3})}, api.ErrForm},
		{"more than cells", []api.Prop{parent(2), val("interrupts", make([]byte, 9))}, api.ErrForm},
		{"no cells, and no parent", []api.Prop{val("interrupts", []byte{1})}, api.ErrForm},
		{"no cells, and a wrong parent", []api.Prop{parent(4), val("interrupts", []byte{1})}, api.ErrForm},
		{"no parent", []api.Prop{right}, api.ErrNone},
		{"a parent that is no cell", []api.Prop{right, parent(2, 2)}, api.ErrForm},
		{"a parent that is nobody", []api.Prop{right, parent(4)}, api.ErrHandle},
	} {
		refuseLines(t, c.what, rooted(handled(2), having(c.props...)), at(1), c.want)
	}
	// What is wrong beside the way isn't asked.
	x := rooted(handled(2, pairs(1)), with(having(pairs(2, 1), parent(9, 9)), having(pairs(7))), having(parent(1, 2)))
	expectLines(t, "wrong ones beside it", x, at(1), line(1, 0))
}

func TestLinesOfWrongHandles(t *testing.T) {
	for what, c := range badHandles() {
		x := rooted(handled(2), having(cells("interrupts-extended", 2, 1)), having(cells("interrupts-extended", 4, 1)), having(cells("interrupts-extended")),
			with(having(cells("interrupt-parent", 2)), having(cells("interrupts", 1)), having(cells("interrupts"))), having(cells("interrupts", 1)), having(cells("interrupts-extended", 2)), c.node)
		refuseLines(t, what, x, at(1), c.want)
		refuseLines(t, what+", of a handle that is nobody's", x, at(2), c.want)
		refuseLines(t, what+", of the parent's", x, at(4, 0), c.want)
		expectLines(t, what+", but there is no pair", x, at(3))
		expectLines(t, what+", but there is no line", x, at(4, 1))
		refuseLines(t, what+", but there is no parent", x, at(5), api.ErrNone)
		refuseLines(t, what+", but the pairs are asked first", x, at(6), api.ErrForm)
	}
}

// chain answers a tree of so many nodes, one below another, below the root; the lowest one is as handed in.
func chain(nodes int, lowest api.Node) api.Tree {
	n := lowest
	for range nodes - 1 {
		n = with(having(), n)
	}
	return rooted(n)
}

func TestDeepTrees(t *testing.T) {
	for _, nodes := range []int{1, 2, api.MaxDepth, api.MaxDepth + 1, 1 << 16} {
		what, place := strconv.Itoa(nodes)+" nodes", make([]int, nodes)
		x := chain(nodes, ctrl(5, cells("interrupts-extended", 5, 6)))
		x.Root.Props = []api.Prop{cells("interrupt-parent", 5), cells("interrupts", 3)}
		// A tree that isn't formed may have nodes whose places are too long to ask of; their handles mean them all the same.
		expectParent(t, what, x, nil, place...)
		expectLines(t, what, x, nil, line(3, place...))
		if nodes > api.MaxDepth {
			refuseParent(t, what, x, place, api.ErrDeep)
			refuseLines(t, what, x, place, api.ErrDeep)
			refuseRoot(t, what, x, line(3, place...), api.ErrDeep)
		} else {
			expectParent(t, what, x, place, place...)
			expectLines(t, what, x, place, line(6, place...))
			refuseRoot(t, what, x, line(3, place...), api.ErrLoop)
		}
		expectThrough(t, what, x, line(3, place...), line(3, place...))
		refuseThrough(t, what, x, line(3, append(place, 0)...), api.ErrNone)
		refuseRoot(t, what, x, line(3, append(place, 0)...), api.ErrNone)
	}
}

// Each node of a deep tree has a handle: all of their places together would be far greater than the tree.
func TestDeepHandles(t *testing.T) {
	const nodes = 1 << 16
	n := ctrl(nodes)
	for i := range uint32(nodes - 1) {
		n = with(handled(nodes-1-i), n)
	}
	x := rooted(n)
	x.Root.Props = []api.Prop{cells("interrupts-extended", nodes, 6, 1, 7)}
	expectLines(t, "deep handles", x, nil, line(6, make([]int, nodes)...), line(7, 0))
	expectThrough(t, "deep handles", x, line(6, make([]int, nodes)...), line(6, make([]int, nodes)...))
}

func TestManyLines(t *testing.T) {
	const many = 1 << 16
	var numbers, pairs []uint32
	var one, all []Line
	kids := []api.Node{{}, {}}
	for i := range uint32(many) {
		numbers = append(numbers, many-i)
		pairs = append(pairs, many-i, i)
		kids = append(kids, ctrl(i+1))
		one = append(one, line(many-i, many+1))
		all = append(all, line(i, int(many+1-i)))
	}
	kids[0] = having(cells("interrupts", numbers...), cells("interrupt-parent", many))
	kids[1] = having(cells("interrupts-extended", pairs...))
	x := rooted(kids...)
	expectLines(t, "many lines at one", x, at(0), one...)
	expectLines(t, "many lines at many", x, at(1), all...)
	x.Root.Kids[many+1].Props = nil
	refuseLines(t, "many lines, but one handle of the first pair is nobody's", x, at(1), api.ErrHandle)
}
