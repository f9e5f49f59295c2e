package decode

import (
	"bytes"

	"arboret/api"
	"arboret/blob"
	"arboret/name"
	"arboret/words"
)

// reader goes through a structure, token by token.
type reader struct {
	structure, texts []byte
	at               int // where the next token begins
	// open are the nodes that have begun and not ended, behind one that isn't in the tree: the root stands in it.
	open []openNode
}

type openNode struct {
	node  api.Node
	props names
	kids  names
}

// names are those that are taken, so that a node of many properties or nodes is read in one go.
type names map[string]struct{}

// readRoot answers the root that the structure says.
func readRoot(structure, texts []byte) (api.Node, api.Errno) {
	r := &reader{structure: structure, texts: texts}
	r.enter("")
	for {
		token, ok := words.Get(structure, r.at)
		if !ok || !r.mayStand(token) {
			return api.Node{}, api.ErrForm
		}
		if e := r.read(token); e != api.OK {
			return api.Node{}, e
		}
		if token == blob.Last {
			break
		}
	}
	if r.at != len(structure) {
		return api.Node{}, api.ErrForm
	}
	return r.innermost().node.Kids[0], api.OK
}

// mayStand answers whether the token may stand where the reader is.
func (r *reader) mayStand(token uint32) bool {
	inNode := len(r.open) > 1
	kids := len(r.innermost().node.Kids)
	switch token {
	case blob.Begin:
		return inNode || kids == 0
	case blob.End:
		return inNode
	case blob.Property:
		return inNode && kids == 0
	case blob.Nothing:
		return true
	case blob.Last:
		return !inNode && kids == 1
	}
	return false
}

// read reads a token that may stand where it does, and goes behind it.
func (r *reader) read(token uint32) api.Errno {
	switch token {
	case blob.Begin:
		return r.readBegin()
	case blob.Property:
		return r.readProperty()
	case blob.End:
		r.leave()
		fallthrough
	case blob.Nothing:
		fallthrough
	case blob.Last:
		// Nothing belongs to these, so that the token ends where its cell does.
		r.at += blob.CellSize
	}
	return api.OK
}

func (r *reader) readBegin() api.Errno {
	s, ok := words.Text(r.structure, r.at+blob.CellSize)
	if !ok || !r.goBehind(r.at+blob.CellSize+len(s)+1) {
		return api.ErrForm
	}
	// The root is the first one that is entered, behind the one that it stands in.
	depth := len(r.open)
	switch {
	case depth > api.MaxDepth:
		return api.ErrDeep
	case !mayBeNamed(s, depth):
		return api.ErrName
	case !r.innermost().kids.take(s):
		return api.ErrTwice
	}
	r.enter(s)
	return api.OK
}

func (r *reader) readProperty() api.Errno {
	size, _ := words.Get(r.structure, r.at+blob.CellSize)
	nameAt, ok := words.Get(r.structure, r.at+2*blob.CellSize)
	from := r.at + 3*blob.CellSize
	// The size is held against what is left, as from and size could wrap round together.
	if !ok || uint64(size) > uint64(len(r.structure)-from) {
		return api.ErrForm
	}
	value := r.structure[from:][:size]
	if !r.goBehind(from + len(value)) {
		return api.ErrForm
	}
	s, ok := words.Text(r.texts, int(nameAt))
	switch in := r.innermost(); {
	case !ok:
		return api.ErrForm
	case !name.Prop(s):
		return api.ErrName
	case !in.props.take(s):
		return api.ErrTwice
	default:
		in.node.Props = append(in.node.Props, api.Prop{Name: s, Value: bytes.Clone(value)})
	}
	return api.OK
}

// goBehind goes to at, and on to a multiple of 4; it answers whether there are noughts up to there.
func (r *reader) goBehind(at int) bool {
	r.at = at + words.Pad(at)
	if r.at > len(r.structure) {
		return false
	}
	for _, x := range r.structure[at:r.at] {
		if x != 0 {
			return false
		}
	}
	return true
}

// innermost is the node in which the reader stands; what it answers holds till the next one is entered.
func (r *reader) innermost() *openNode {
	return &r.open[len(r.open)-1]
}

func (r *reader) enter(s string) {
	r.open = append(r.open, openNode{node: api.Node{Name: s}, props: names{}, kids: names{}})
}

// leave puts the innermost node below the one in which it stands.
func (r *reader) leave() {
	node := r.innermost().node
	r.open = r.open[:len(r.open)-1]
	in := r.innermost()
	in.node.Kids = append(in.node.Kids, node)
}

func mayBeNamed(s string, depth int) bool {
	if depth == 1 {
		return s == ""
	}
	return name.Node(s)
}

// take answers whether s was free, and takes it.
func (n names) take(s string) bool {
	if _, ok := n[s]; ok {
		return false
	}
	n[s] = struct{}{}
	return true
}
