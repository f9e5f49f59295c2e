package overlay

import (
	"strconv"
	"strings"

	"arboret/api"
	"arboret/path"
	"arboret/prop"
	"arboret/tree"
)

const (
	fixups    = "__fixups__"
	symbols   = "__symbols__"
	colon     = ":"
	slash     = "/"
	maxDigits = 9
)

// Fix answers over with the cells that its fixups say set to the handles that their labels mean in base.
func Fix(base, over api.Tree) (api.Tree, api.Errno) {
	c := tree.Clone(over)
	i := tree.Kid(over.Root, fixups)
	if i < 0 {
		return c, api.OK
	}
	root := spotOf(c.Root)
	// What the fixups say is read of over, as one of them may mean a cell of another one.
	for _, p := range over.Root.Kids[i].Props {
		if !fixLabel(base, root, p) {
			return api.Tree{}, api.ErrFixup
		}
	}
	return c, api.OK
}

// fixLabel sets the cells that one fixup says below root, and answers whether all that it says is there.
func fixLabel(base api.Tree, root spot, fixup api.Prop) bool {
	v, ok := labelCell(base, fixup.Name)
	if !ok {
		return false
	}
	l, e := prop.Texts(fixup.Value)
	if e != api.OK {
		return false
	}
	for _, text := range l {
		if !setCell(root, text, v) {
			return false
		}
	}
	return true
}

// labelCell answers the phandle of the node that the label means in base, whatever it is, and whether there is one.
func labelCell(base api.Tree, label string) (uint32, bool) {
	i := tree.Kid(base.Root, symbols)
	if i < 0 {
		return 0, false
	}
	value, _ := tree.Find(base.Root.Kids[i], label)
	text, e := prop.Text(value)
	if e != api.OK {
		return 0, false
	}
	place, e := path.Find(base, text)
	if e != api.OK {
		return 0, false
	}
	v, ok, _ := prop.One(*nodeAt(&base.Root, place), phandle)
	return v, ok
}

// setCell puts v where the text, a path, a property's name and a place, says, and answers whether that is there.
func setCell(root spot, text string, v uint32) bool {
	l := strings.Split(text, colon)
	if len(l) < 3 {
		return false
	}
	// From behind, as a node of a tree that isn't formed may have a colon in its name.
	digits, name, full := l[len(l)-1], l[len(l)-2], strings.Join(l[:len(l)-2], colon)
	at, ok := number(digits)
	if !ok {
		return false
	}
	s, ok := find(root, full)
	return ok && set(s.values[name], at, v)
}

// number answers what the digits are, and whether they are digits alone, and no more than they may be.
func number(digits string) (int, bool) {
	if len(digits) > maxDigits {
		return 0, false
	}
	n, err := strconv.ParseUint(digits, 10, 32)
	if err != nil {
		return 0, false
	}
	return int(n), true
}

// find answers what is at a path of full names; where no node is, the spot has nothing.
// It doesn't ask layer 6, for which a name without @ may stand for one with it.
func find(root spot, full string) (spot, bool) {
	rest, ok := strings.CutPrefix(full, slash)
	if !ok {
		return spot{}, false
	}
	if rest == "" {
		return root, true
	}
	s := root
	for _, name := range strings.Split(rest, slash) {
		// In a tree that isn't formed a node may have the empty name, which is none's in a path.
		if name == "" {
			return spot{}, false
		}
		s = s.kids[name]
	}
	return s, true
}
