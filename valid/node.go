package valid

import (
	"slices"

	"arboret/api"
	"arboret/irq"
	"arboret/path"
	"arboret/region"
	"arboret/xlate"
)

// checker asks one tree, which is formed, and whose handles are right. Its spots are in the order of layer 6's All, the root first.
type checker struct {
	tree  api.Tree
	spots []*spot
}

func newChecker(t api.Tree) *checker {
	c := &checker{tree: t}
	root := &spot{node: t.Root}
	// The root isn't asked what is wrong with it: whatever isn't so, it hasn't.
	root.enabled, _ = isOn(t.Root)
	if root.enabled {
		root.kind, _, _ = kindOf(t.Root)
		root.lines, _ = irq.Lines(t, nil)
	}
	c.add(root)
	return c
}

// add adds s, and all below it.
func (c *checker) add(s *spot) {
	c.spots = append(c.spots, s)
	for i, n := range s.node.Kids {
		kid := &spot{place: slices.Concat(s.place, []int{i}), node: n, above: s}
		s.kids = append(s.kids, kid)
		c.add(kid)
	}
}

// fault answers the error with the path of the node at the place.
func (c *checker) fault(e api.Errno, place []int) error {
	p, _ := path.Path(c.tree, place)
	return fault{path: p, err: e}
}

// node answers the first error of what is asked of s itself, which isn't the root; those above it have been asked.
func (c *checker) node(s *spot) api.Errno {
	on, e := isOn(s.node)
	if e != api.OK {
		return e
	}
	s.enabled = on && s.above.enabled
	if !s.enabled {
		return api.OK
	}
	kind, says, e := kindOf(s.node)
	if e != api.OK {
		return e
	}
	s.kind = kind
	switch {
	case kind == Bus:
		return bus(s)
	case kind != None:
		return c.device(s)
	case says:
		return api.ErrKnown
	}
	return api.OK
}

func bus(s *spot) api.Errno {
	ranges, ok, e := xlate.Ranges(s.above.node, s.node)
	if e != api.OK {
		return e
	}
	if !ok {
		return api.ErrRange
	}
	for _, r := range ranges {
		if goesBeyond(region.Window{At: r.Below, Size: r.Size}) || goesBeyond(seenFromAbove(r)) {
			return api.ErrRange
		}
	}
	return api.OK
}

func (c *checker) device(s *spot) api.Errno {
	for a := s.above; !a.isRoot(); a = a.above {
		if a.kind != Bus {
			return api.ErrKnown
		}
	}
	windows, e := xlate.Windows(c.tree, s.place)
	if e != api.OK {
		return e
	}
	if len(windows) != 1 || goesBeyond(windows[0]) || !mayHave(s.kind, windows[0].Size) {
		return api.ErrRange
	}
	s.lines, e = irq.Lines(c.tree, s.place)
	if e != api.OK {
		return e
	}
	if s.kind == Ctrl && !irq.Controller(s.node) || len(s.lines) > mostLines(s.kind) {
		return api.ErrForm
	}
	for _, l := range s.lines {
		if e := c.line(l); e != api.OK {
			return e
		}
	}
	return api.OK
}

// line answers the first error of what is asked of a device's line.
func (c *checker) line(l irq.Line) api.Errno {
	_, ends, e := irq.Root(c.tree, l)
	if e != api.OK {
		return e
	}
	if slices.ContainsFunc(ends, func(l irq.Line) bool { return l.Line >= api.MaxLines }) {
		return api.ErrRange
	}
	if slices.ContainsFunc(ends, c.isElsewhere) {
		return api.ErrKnown
	}
	return api.OK
}

// isElsewhere answers whether the line is at a controller that isn't an enabled ctrl.
// It asks the tree, as a controller may stand behind the node that is asked just now, and be wrong.
func (c *checker) isElsewhere(l irq.Line) bool {
	kind, _ := Of(c.tree, l.Place)
	enabled, _ := Enabled(c.tree, l.Place)
	return kind != Ctrl || !enabled
}

func mayHave(k Kind, size uint64) bool {
	if k == RAM {
		return 1 <= size && size <= api.MaxRAM
	}
	return size == Size(k)
}

func mostLines(k Kind) int {
	if k == RAM {
		return 0
	}
	return 1
}

func seenFromAbove(r xlate.Range) region.Window {
	return region.Window{At: r.Above, Size: r.Size}
}

// goesBeyond answers whether a byte of w is beyond 2^64 - 1: no other window that has a byte isn't all in itself.
func goesBeyond(w region.Window) bool { return w.Size > 0 && !region.Inside(w, w.At, w.Size) }
