package overlay

import (
	"slices"

	"arboret/api"
	"arboret/handle"
	"arboret/prop"
	"arboret/tree"
)

const localFixups = "__local_fixups__"

// Shift answers over with its handles, and the cells that its local fixups mean, greater by so much.
func Shift(over api.Tree, by uint32) (api.Tree, api.Errno) {
	if _, e := handle.Most(over); e != api.OK {
		return api.Tree{}, e
	}
	c := tree.Clone(over)
	if e := raiseHandles(c.Root, by); e != api.OK {
		return api.Tree{}, e
	}
	i := tree.Kid(over.Root, localFixups)
	if i < 0 {
		return c, api.OK
	}
	// What the local fixups say is read of over, as one of them may mean a cell of another one.
	if e := raiseLocal(spotOf(c.Root), over.Root.Kids[i], by); e != api.OK {
		return api.Tree{}, e
	}
	return c, api.OK
}

// raiseHandles raises, in their own memory, the handles of n and of all below it: layer 8 has found each to be one cell.
func raiseHandles(n api.Node, by uint32) api.Errno {
	i := slices.IndexFunc(n.Props, func(p api.Prop) bool { return p.Name == phandle })
	if i >= 0 {
		if e := raise(n.Props[i].Value, 0, by); e != api.OK {
			return e
		}
	}
	for _, kid := range n.Kids {
		if e := raiseHandles(kid, by); e != api.OK {
			return e
		}
	}
	return api.OK
}

// raiseLocal raises the cells of s, and of all below it, that the local fixups and those below them say.
// One without properties says nothing, so that it needs no node of its name.
func raiseLocal(s spot, fixups api.Node, by uint32) api.Errno {
	for _, p := range fixups.Props {
		if e := raiseCells(s, p, by); e != api.OK {
			return e
		}
	}
	for _, kid := range fixups.Kids {
		if e := raiseLocal(s.kids[kid.Name], kid, by); e != api.OK {
			return e
		}
	}
	return api.OK
}

// raiseCells raises the cells of s's property of p's name whose places p says.
func raiseCells(s spot, p api.Prop, by uint32) api.Errno {
	places, e := prop.Cells(p.Value)
	if e != api.OK {
		return api.ErrFixup
	}
	value, ok := s.values[p.Name]
	if !ok {
		return api.ErrFixup
	}
	for _, at := range places {
		if e := raise(value, int(at), by); e != api.OK {
			return e
		}
	}
	return api.OK
}
