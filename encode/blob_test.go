package encode

import (
	"bytes"
	"encoding/hex"
	"slices"
	"strings"
	"testing"

	"arboret/api"
	"arboret/decode"
	"arboret/tree"
	"arboret/words"
)

// What the tests of this package lay blobs out, and hold them against each other, with. Nothing here leans on package blob.

// hexed answers the bytes that s says, two digits a byte; white space, and lines' ends from // on, say nothing.
func hexed(t *testing.T, s string) []byte {
	t.Helper()
	digits := ""
	for line := range strings.Lines(s) {
		line, _, _ = strings.Cut(line, "//")
		digits += strings.Join(strings.Fields(line), "")
	}
	b, err := hex.DecodeString(digits)
	if err != nil {
		t.Fatal(err)
	}
	return b
}

// parts is a blob in its parts, of which each has bytes ahead of it that belong to none.
type parts struct {
	boot                       uint32
	reserves, structure, texts []byte
	gaps                       [4][]byte
	backwards                  bool
}

// partsOf answers the parts of a blob that is laid out as Encode does.
func partsOf(t *testing.T, b []byte) parts {
	t.Helper()
	h, e := decode.Header(b)
	if e != api.OK {
		t.Fatal(e)
	}
	return parts{boot: h[7], reserves: b[40:h[2]], structure: b[h[2]:h[3]], texts: b[h[3]:]}
}

// joined answers the parts as a blob: the reserves, the structure and the texts, or backwards; the last gap is at the end.
func (p parts) joined() []byte {
	b := make([]byte, 40)
	at := [3]int{}
	order := []int{0, 1, 2}
	if p.backwards {
		slices.Reverse(order)
	}
	for i, k := range order {
		b = append(b, p.gaps[i]...)
		at[k] = len(b)
		b = append(b, [][]byte{p.reserves, p.structure, p.texts}[k]...)
	}
	b = append(b, p.gaps[3]...)
	head := cells(0xd00dfeed, uint32(len(b)), uint32(at[1]), uint32(at[2]), uint32(at[0]), 17, 16, p.boot, uint32(len(p.texts)), uint32(len(p.structure)))
	copy(b, head)
	return b
}

// encodes asks that x is encoded as want, and R5.
func encodes(t *testing.T, what string, x api.Tree, want []byte) {
	t.Helper()
	b, e := Encode(x)
	if e != api.OK || !bytes.Equal(b, want) {
		t.Errorf("%s: %v\n%x, not\n%x", what, e, b, want)
	}
}

// laid answers x as a blob, and asks all of it that P5.1 and P5.2 say but for its bytes.
func laid(t *testing.T, what string, x api.Tree) []byte {
	t.Helper()
	b, e := Encode(x)
	if e != api.OK {
		t.Fatalf("%s: %v", what, e)
	}
	h, e := decode.Header(b)
	structure, texts := structureSize(x.Root), textsOf(x.Root)
	reserves := 16 * (len(x.Reserves) + 1)
	want := [10]uint32{0xd00dfeed, uint32(40 + reserves + structure + len(texts)), uint32(40 + reserves), uint32(40 + reserves + structure), 40, 17, 16, x.Boot, uint32(len(texts)), uint32(structure)}
	if e != api.OK || h != want {
		t.Errorf("%s: the header is %v, not %v; %v", what, h, want, e)
	}
	if !strings.HasSuffix(string(b), texts) {
		t.Errorf("%s: the texts aren't %q", what, texts)
	}
	if y, e := decode.Decode(b); e != api.OK || !tree.Equal(x, y) {
		t.Errorf("%s: %v is decoded as %v; %v", what, x, y, e)
	}
	if !Layout(b) {
		t.Errorf("%s: what is encoded isn't laid out so", what)
	}
	return b
}

// structureSize answers how many bytes a structure is without NOTHING; the last token is the root's.
func structureSize(n api.Node) int {
	size := 4 + len(n.Name) + 1 + words.Pad(len(n.Name)+1) + 4
	for _, p := range n.Props {
		size += 12 + len(p.Value) + words.Pad(len(p.Value))
	}
	for _, kid := range n.Kids {
		size += structureSize(kid)
	}
	if n.Name == "" {
		size += 4
	}
	return size
}

// textsOf answers the names of properties, each once, with their noughts.
func textsOf(n api.Node) string {
	texts := "\x00"
	var add func(api.Node)
	add = func(n api.Node) {
		for _, p := range n.Props {
			if !strings.Contains(texts, "\x00"+p.Name+"\x00") {
				texts += p.Name + "\x00"
			}
		}
		for _, kid := range n.Kids {
			add(kid)
		}
	}
	add(n)
	return texts[1:]
}

func node(name string, kids ...api.Node) api.Node { return api.Node{Name: name, Kids: kids} }

func with(n api.Node, names ...string) api.Node {
	for _, s := range names {
		n.Props = append(n.Props, api.Prop{Name: s, Value: []byte(s)})
	}
	return n
}

func rooted(n api.Node) api.Tree { return api.Tree{Root: n} }

// full answers a tree with two of everything; each call's is of memory of its own.
func full() api.Tree {
	return api.Tree{
		Boot:     0x80000007,
		Reserves: []api.Reserve{{At: 0x0102030405060708, Size: 0x90}, {At: 0, Size: 1 << 63}},
		Root: with(node("",
			with(node("k@1", with(node("leaf"), "x", "reg"), node("other")), "x#", "b"),
			with(node("abc", node("leaf")), "reg"),
		), "reg", "eg"),
	}
}
