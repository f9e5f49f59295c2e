package irq

import (
	"math"
	"slices"

	"arboret/api"
	"arboret/handle"
	"arboret/prop"
	"arboret/tree"
)

const (
	parent     = "interrupt-parent"
	interrupts = "interrupts"
	extended   = "interrupts-extended"
	nexus      = "interrupt-map"
	nexusMask  = "interrupt-map-mask"
	pairCells  = 2
	entryCells = 3
)

// wire is a line at a spot.
type wire struct {
	at     *spot
	number uint32
}

func (w wire) line() Line { return Line{Place: w.at.place(), Line: w.number} }

// reader reads one tree. Who has which handle it asks once, and only if it has to, as a call may ask that of many handles.
type reader struct {
	tree   api.Tree
	owners map[uint32]*spot
	wrong  api.Errno
}

// find answers the spot of the node that layer 8's Find answers of the handle, or its error.
func (r *reader) find(h uint32) (*spot, api.Errno) {
	if r.owners == nil {
		_, r.wrong = handle.Most(r.tree)
		r.owners = owners(r.tree)
	}
	if r.wrong != api.OK {
		return nil, r.wrong
	}
	s, ok := r.owners[h]
	if !ok {
		return nil, api.ErrHandle
	}
	return s, api.OK
}

// at answers the spot at the place, and whether there is one.
func (r *reader) at(place []int) (*spot, bool) {
	s := &spot{node: r.tree.Root}
	for _, i := range place {
		if i < 0 || i >= len(s.node.Kids) {
			return nil, false
		}
		s = s.below(i)
	}
	return s, true
}

// get answers the spot at the place, or the error of layer 6's Get, which would copy all that is below it.
func (r *reader) get(place []int) (*spot, api.Errno) {
	if len(place) > api.MaxDepth {
		return nil, api.ErrDeep
	}
	s, ok := r.at(place)
	if !ok {
		return nil, api.ErrNone
	}
	return s, api.OK
}

// parent answers the spot of the node at which the cells of interrupts are lines.
func (r *reader) parent(s *spot) (*spot, api.Errno) {
	for ; s != nil; s = s.above {
		h, ok, e := prop.One(s.node, parent)
		if e != api.OK {
			return nil, e
		}
		if ok {
			return r.find(h)
		}
	}
	return nil, api.ErrNone
}

// lines answers the lines of the node at the place.
func (r *reader) lines(place []int) ([]wire, api.Errno) {
	s, e := r.get(place)
	if e != api.OK {
		return nil, e
	}
	if value, ok := tree.Find(s.node, extended); ok {
		return r.pairs(value)
	}
	value, _ := tree.Find(s.node, interrupts)
	cells, e := prop.Cells(value)
	if e != api.OK || len(cells) == 0 {
		return nil, e
	}
	p, e := r.parent(s)
	if e != api.OK {
		return nil, e
	}
	var l []wire
	for _, c := range cells {
		l = append(l, wire{p, c})
	}
	return l, api.OK
}

// pairs answers the lines that the value says, each with the handle of the node that it is at.
func (r *reader) pairs(value []byte) ([]wire, api.Errno) {
	cells, e := prop.Cells(value)
	if e != api.OK || len(cells)%pairCells != 0 {
		return nil, api.ErrForm
	}
	var l []wire
	for pair := range slices.Chunk(cells, pairCells) {
		s, e := r.find(pair[0])
		if e != api.OK {
			return nil, e
		}
		l = append(l, wire{s, pair[1]})
	}
	return l, api.OK
}

// through answers the wire at a controller that w comes to.
func (r *reader) through(w wire) (wire, api.Errno) {
	for range api.MaxDepth {
		if Controller(w.at.node) {
			return w, api.OK
		}
		next, e := r.next(w)
		if e != api.OK {
			return wire{}, e
		}
		w = next
	}
	return wire{}, api.ErrLoop
}

// next answers the wire that a nexus makes of w.
func (r *reader) next(w wire) (wire, api.Errno) {
	value, ok := tree.Find(w.at.node, nexus)
	if !ok {
		return wire{}, api.ErrNone
	}
	cells, e := prop.Cells(value)
	if e != api.OK || len(cells)%entryCells != 0 {
		return wire{}, api.ErrForm
	}
	mask, ok, e := prop.One(w.at.node, nexusMask)
	if e != api.OK {
		return wire{}, e
	}
	if !ok {
		mask = math.MaxUint32
	}
	for entry := range slices.Chunk(cells, entryCells) {
		if entry[0]&mask == w.number&mask {
			s, e := r.find(entry[1])
			return wire{s, entry[2]}, e
		}
	}
	return wire{}, api.ErrNone
}

// way answers the wires at the controllers that w comes to, one after the other, the last one without lines of its own.
func (r *reader) way(w wire) ([]wire, api.Errno) {
	c, e := r.through(w)
	if e != api.OK {
		return nil, e
	}
	l := []wire{c}
	for range api.MaxDepth {
		own, e := r.lines(c.at.place())
		if e != api.OK {
			return nil, e
		}
		if len(own) == 0 {
			return l, api.OK
		}
		// Ahead of whether there are too many of them: what is wrong on the way is told first.
		if c, e = r.through(own[0]); e != api.OK {
			return nil, e
		}
		l = append(l, c)
	}
	return nil, api.ErrLoop
}
