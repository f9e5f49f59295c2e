package overlay

import (
	"slices"

	"arboret/api"
	"arboret/words"
)

// spot is a node whose cells may be changed: by their names the values of its properties, in the node's own memory, and
// those right below it, the first one of each name. Of a node that isn't there it is zero, and so has nothing.
type spot struct {
	values map[string][]byte
	kids   map[string]spot
}

func spotOf(n api.Node) spot {
	s := spot{make(map[string][]byte, len(n.Props)), make(map[string]spot, len(n.Kids))}
	// Backward, so that the first one of a name is the one that stays.
	for _, p := range slices.Backward(n.Props) {
		s.values[p.Name] = p.Value
	}
	for _, kid := range slices.Backward(n.Kids) {
		s.kids[kid.Name] = spotOf(kid)
	}
	return s
}

// raise makes the cell at that place of b greater by so much, in b's own memory.
func raise(b []byte, at int, by uint32) api.Errno {
	v, ok := words.Get(b, at)
	if !ok {
		return api.ErrFixup
	}
	if uint64(v)+uint64(by) > api.MaxHandle {
		return api.ErrHandle
	}
	set(b, at, v+by)
	return api.OK
}

// set puts v in the cell at that place of b, in b's own memory, and answers whether there is one.
func set(b []byte, at int, v uint32) bool {
	if _, ok := words.Get(b, at); !ok {
		return false
	}
	copy(b[at:], words.Put(nil, v))
	return true
}
