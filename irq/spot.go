package irq

import (
	"slices"

	"arboret/api"
	"arboret/prop"
)

const phandle = "phandle"

// spot is where a node stands: which one it is of those right below the spot above it; of the root there is none above.
type spot struct {
	node  api.Node
	above *spot
	index int
}

func (s *spot) below(i int) *spot { return &spot{node: s.node.Kids[i], above: s, index: i} }

// place answers the place of the spot.
// It is made only of what is answered, as the places of all nodes of a deep tree are together far greater than it.
func (s *spot) place() []int {
	var l []int
	for ; s.above != nil; s = s.above {
		l = append(l, s.index)
	}
	slices.Reverse(l)
	return l
}

// owners answers the spots of the nodes that have a handle, in a tree whose handles layer 8 has found to be right.
func owners(t api.Tree) map[uint32]*spot {
	m := make(map[uint32]*spot)
	(&spot{node: t.Root}).addTo(m)
	return m
}

func (s *spot) addTo(m map[uint32]*spot) {
	if h, ok, _ := prop.One(s.node, phandle); ok {
		m[h] = s
	}
	for i := range s.node.Kids {
		s.below(i).addTo(m)
	}
}
