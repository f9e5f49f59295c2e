package decode

import (
	"encoding/binary"
	"slices"
	"testing"

	"arboret/api"
	"arboret/tree"
)

// What the tests of this package lay blobs out with. Nothing here leans on the package's own constants.

func cellsOf(l ...uint32) []byte {
	var b []byte
	for _, v := range l {
		b = binary.BigEndian.AppendUint32(b, v)
	}
	return b
}

func padded(b []byte) []byte {
	for len(b)%4 != 0 {
		b = append(b, 0)
	}
	return b
}

// begins answers the tokens of a node that begins.
func begins(name string) []byte {
	return padded(append(append(cellsOf(1), name...), 0))
}

// has answers the tokens of a property whose name begins at that place in the texts.
func has(nameAt uint32, value string) []byte {
	return padded(append(cellsOf(3, uint32(len(value)), nameAt), value...))
}

var (
	ends    = cellsOf(2)
	noToken = cellsOf(4)
	lastly  = cellsOf(9)
)

// structured answers a root's tokens around those, and the last one.
func structured(tokens ...[]byte) []byte {
	return slices.Concat(begins(""), slices.Concat(tokens...), ends, lastly)
}

// node answers the tokens of a node around those.
func node(name string, tokens ...[]byte) []byte {
	return slices.Concat(begins(name), slices.Concat(tokens...), ends)
}

// The texts that the tests use where they need no others, and where the names in it begin.
const (
	someTexts = "reg\x00phandle\x00#a?\x00\x00@\x0001234567890123456789012345678901\x00"
	regAt     = 0
	handleAt  = 4
	andleAt   = 6
	marksAt   = 12
	emptyAt   = 16
	wrongAt   = 17
	longAt    = 19
	longestAt = 20
)

// layout is a blob in parts; it is laid out as the header, the reserves, the structure and the texts.
type layout struct {
	boot      uint32
	reserves  []uint64
	structure []byte
	texts     string
}

func of(tokens ...[]byte) layout {
	return layout{structure: slices.Concat(tokens...), texts: someTexts}
}

func (l layout) reserveBytes() []byte {
	var b []byte
	for _, v := range append(slices.Clone(l.reserves), 0, 0) {
		b = binary.BigEndian.AppendUint64(b, v)
	}
	return b
}

func (l layout) bytes() []byte {
	reserves := l.reserveBytes()
	structureAt := 40 + len(reserves)
	textsAt := structureAt + len(l.structure)
	head := cellsOf(0xd00dfeed, uint32(textsAt+len(l.texts)), uint32(structureAt), uint32(textsAt), 40, 17, 16, l.boot, uint32(len(l.texts)), uint32(len(l.structure)))
	return slices.Concat(head, reserves, l.structure, []byte(l.texts))
}

// set answers b with the header's cell k, from 0 on, being v.
func set(b []byte, k int, v uint32) []byte {
	b = slices.Clone(b)
	binary.BigEndian.PutUint32(b[4*k:], v)
	return b
}

// Which of the header's cells is which.
const (
	magicAt = iota
	totalAt
	structAt
	textAt
	reserveAt
	versionAt
	compatAt
	bootAt
	textSizeAt
	structSizeAt
)

// laid answers t as a blob, each name of a property once more for each property.
func laid(t api.Tree) []byte {
	l := layout{boot: t.Boot}
	for _, r := range t.Reserves {
		l.reserves = append(l.reserves, r.At, r.Size)
	}
	l.structure = append(laidNode(t.Root, &l.texts), lastly...)
	return l.bytes()
}

func laidNode(n api.Node, texts *string) []byte {
	b := begins(n.Name)
	for _, p := range n.Props {
		b = append(b, has(uint32(len(*texts)), string(p.Value))...)
		*texts += p.Name + "\x00"
	}
	for _, kid := range n.Kids {
		b = append(b, laidNode(kid, texts)...)
	}
	return append(b, ends...)
}

type refused struct {
	what string
	b    []byte
	want api.Errno
}

// refuses asks that each is answered with its error, and nothing beside it; OK asks for a tree that is formed.
func refuses(t *testing.T, l []refused) {
	t.Helper()
	for _, c := range l {
		x, e := Decode(c.b)
		if e != c.want {
			t.Errorf("%s: %v, not %v", c.what, e, c.want)
		}
		whole(t, c.what, x, e)
	}
}

// whole asks P4.3 of an answer, and R5.
func whole(t *testing.T, what string, x api.Tree, e api.Errno) {
	t.Helper()
	if e == api.OK && tree.Check(x) != api.OK {
		t.Errorf("%s: what is decoded isn't formed: %v", what, tree.Check(x))
	}
	if e != api.OK && (!tree.Equal(x, api.Tree{})) {
		t.Errorf("%s: a tree beside an error", what)
	}
}
