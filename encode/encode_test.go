package encode

import (
	"bytes"
	"math"
	"runtime"
	"slices"
	"strconv"
	"strings"
	"testing"

	"arboret/api"
	"arboret/tree"
)

// The tests of this file are P5.1's of Encode, and, of it, the rules R1 to R6's.

func TestEncodeRootAlone(t *testing.T) {
	want := hexed(t, `
		d00dfeed 00000048 00000038 00000048 00000028 00000011 00000010 00000000 00000000 00000010
		0000000000000000 0000000000000000
		00000001 00000000 00000002 00000009
	`)
	if len(want) != 72 {
		t.Fatal(len(want))
	}
	encodes(t, "nothing", api.Tree{}, want)
	encodes(t, "lists of no elements", api.Tree{Reserves: []api.Reserve{}, Root: api.Node{Props: []api.Prop{}, Kids: []api.Node{}}}, want)
	for _, boot := range []uint32{1, 0x12345678, 1 << 31, math.MaxUint32} {
		copy(want[28:], cells(boot))
		encodes(t, "a boot", api.Tree{Boot: boot}, want)
	}
}

const fullBlob = `
	d00dfeed 0000012e 00000058 00000120 00000028 00000011 00000010 80000007 0000000e 000000c8
	0102030405060708 0000000000000090
	0000000000000000 8000000000000000
	0000000000000000 0000000000000000
	00000001 00000000
	  00000003 00000003 00000000 72656700   // reg
	  00000003 00000002 00000004 65670000   // eg
	  00000001 6b403100                     // k@1
	    00000003 00000002 00000007 78230000 // x#
	    00000003 00000001 0000000a 62000000 // b
	    00000001 6c656166 00000000          // leaf
	      00000003 00000001 0000000c 78000000
	      00000003 00000003 00000000 72656700
	    00000002
	    00000001 6f746865 72000000          // other
	    00000002
	  00000002
	  00000001 61626300                     // abc
	    00000003 00000003 00000000 72656700
	    00000001 6c656166 00000000
	    00000002
	  00000002
	00000002
	00000009
	72656700 656700 782300 6200 7800
`

func TestEncodeFull(t *testing.T) {
	encodes(t, "two of everything", full(), hexed(t, fullBlob))
}

func TestEncodeValues(t *testing.T) {
	for n := range 10 {
		value := "\x04\x02\x09\xff\x00\x00\x01\x03\x05"[:n]
		x := rooted(api.Node{Props: []api.Prop{{Name: "a", Value: []byte(value)}, {Name: "b"}}})
		noughts := strings.Repeat("\x00", (4-n%4)%4)
		want := slices.Concat(cells(1, 0, 3, uint32(n), 0), []byte(value+noughts), cells(3, 0, 2, 2, 9), []byte("a\x00b\x00"))
		if b := laid(t, "a value", x); !bytes.Equal(b[56:], want) {
			t.Errorf("a value of %d bytes: %x, not %x", n, b[56:], want)
		}
	}
}

func TestEncodeNames(t *testing.T) {
	longest := strings.Repeat("a", 31)
	for _, s := range []string{"a", "ab", "abc", "abcd", "a@1", "_,._+-9", longest, longest + "@" + longest} {
		noughts := strings.Repeat("\x00", 4-len(s)%4)
		want := slices.Concat(cells(1, 0, 1), []byte(s+noughts), cells(2, 2, 9))
		if b := laid(t, s, rooted(node("", node(s)))); !bytes.Equal(b[56:], want) {
			t.Errorf("%s: %x, not %x", s, b[56:], want)
		}
	}
	for _, s := range []string{"a", "#address-cells", "0", "a?", longest} {
		want := slices.Concat(cells(1, 0, 3, 0, 0, 2, 9), []byte(s+"\x00"))
		if b := laid(t, s, rooted(api.Node{Props: []api.Prop{{Name: s}}})); !bytes.Equal(b[56:], want) {
			t.Errorf("%s: %x, not %x", s, b[56:], want)
		}
	}
}

func TestEncodeTexts(t *testing.T) {
	for _, c := range []struct {
		what, want string
		root       api.Node
	}{
		{"no property", "", node("", node("a", node("b")))},
		{"in the order in which they come, not by letters", "b\x00c\x00a\x00", with(node(""), "b", "c", "a")},
		{"a name once more", "a\x00b\x00", with(node("", with(node("k"), "b", "a")), "a")},
		{"of a node ahead of those below it", "a\x00b\x00", with(node("", with(node("k"), "b")), "a")},
		{"of those below a node ahead of the next one", "a\x00b\x00c\x00", node("", with(node("k", with(node("m"), "b")), "a"), with(node("l"), "c"))},
		{"one name is another's end", "phandle\x00handle\x00e\x00", with(node(""), "phandle", "handle", "e")},
		{"one name is another's end, the shorter first", "e\x00handle\x00phandle\x00", with(node(""), "e", "handle", "phandle")},
		{"one name is another's beginning", "reg\x00re\x00regs\x00", with(node(""), "reg", "re", "regs")},
		{"small and great letters", "a\x00A\x00", with(node(""), "a", "A")},
		{"a node's name", "b\x00", node("", with(node("a"), "b"))},
	} {
		b := laid(t, c.what, rooted(c.root))
		if p := partsOf(t, b); string(p.texts) != c.want {
			t.Errorf("%s: %q, not %q", c.what, p.texts, c.want)
		}
	}
}

func TestEncodeReserves(t *testing.T) {
	for n := range 65 {
		l := slices.Repeat([]api.Reserve{{At: 1 << 40, Size: math.MaxUint64}}, n)
		b := laid(t, "reserves", api.Tree{Reserves: l})
		want := append(bytes.Repeat(cells(1<<8, 0, math.MaxUint32, math.MaxUint32), n), make([]byte, 16)...)
		if p := partsOf(t, b); !bytes.Equal(p.reserves, want) {
			t.Errorf("%d reserves: %x", n, p.reserves)
		}
	}
	for _, r := range []api.Reserve{{At: 1}, {Size: 1}, {At: 1 << 63}, {Size: 1 << 32}, {At: math.MaxUint64, Size: math.MaxUint64}} {
		laid(t, "a reserve", api.Tree{Reserves: []api.Reserve{r, {At: 5, Size: 6}}})
	}
}

// refuses asks that x is answered with its error, and nothing beside it.
func refuses(t *testing.T, what string, x api.Tree, want api.Errno) {
	t.Helper()
	if b, e := Encode(x); e != want || len(b) != 0 {
		t.Errorf("%s: %v, not %v; %d bytes", what, e, want, len(b))
	}
}

func chain(depth int) api.Node {
	n := node("a")
	for range depth - 1 {
		n = node("a", n)
	}
	return n
}

// numbered answers n nodes of different names, and as many properties.
func numbered(n int) ([]api.Node, []api.Prop) {
	kids, props := make([]api.Node, n), make([]api.Prop, n)
	for i := range n {
		kids[i].Name, props[i].Name = "n"+strconv.Itoa(i), strconv.Itoa(i)
	}
	return kids, props
}

// long is a property whose value can't stand in a blob.
var long = api.Prop{Name: "long", Value: make([]byte, api.MaxBlob)}

func TestEncodeRefusesWhatIsNotFormed(t *testing.T) {
	kids, props := numbered(8193)
	for _, c := range []struct {
		what string
		t    api.Tree
		want api.Errno
	}{
		{"too deep", rooted(node("", chain(16))), api.ErrDeep},
		{"far too deep", rooted(node("", chain(1<<16-1))), api.ErrDeep},
		{"a root with a name", rooted(node("a")), api.ErrName},
		{"a node's name", rooted(node("", node("a", node("0")))), api.ErrName},
		{"no name", rooted(node("", node(""))), api.ErrName},
		{"a nought in a name", rooted(node("", node("a\x00b"))), api.ErrName},
		{"a property's name", rooted(node("", with(node("a"), "a@"))), api.ErrName},
		{"a nought in a property's name", rooted(with(node(""), "a\x00b")), api.ErrName},
		{"two nodes", rooted(node("", node("a"), node("b"), node("a"))), api.ErrTwice},
		{"two properties", rooted(with(node(""), "a", "b", "a")), api.ErrTwice},
		{"too many nodes", rooted(node("", kids[:4096]...)), api.ErrMany},
		{"too many properties", rooted(api.Node{Props: props}), api.ErrMany},
		{"too many reserves", api.Tree{Reserves: slices.Repeat([]api.Reserve{{Size: 1}}, 65)}, api.ErrMany},
		{"a reserve of noughts", api.Tree{Reserves: []api.Reserve{{Size: 1}, {}, {Size: 1}}}, api.ErrMany},
	} {
		if e := tree.Check(c.t); e != c.want {
			t.Errorf("%s: layer 3 answers %v", c.what, e)
		}
		refuses(t, c.what, c.t, c.want)
		c.t.Root.Props = append([]api.Prop{long}, c.t.Root.Props...)
		refuses(t, c.what+", ahead of how many bytes there are", c.t, c.want)
	}
}

func TestEncodeMost(t *testing.T) {
	kids, props := numbered(8192)
	for i := range kids[:4095] {
		kids[i].Props = props[2*i:][:2]
	}
	x := rooted(api.Node{Props: props[8190:], Kids: kids[:4095]})
	x.Reserves = slices.Repeat([]api.Reserve{{At: 7}}, 64)
	laid(t, "MaxNodes, MaxProps, MaxReserves", x)
	laid(t, "MaxProps of one node", rooted(api.Node{Props: props}))
	laid(t, "MaxDepth", rooted(node("", chain(15))))
}

// valued answers a tree whose blob is n bytes and 88 more, where n is a multiple of 4.
func valued(n int) api.Tree {
	return rooted(api.Node{Props: []api.Prop{{Name: "abc", Value: make([]byte, n)}}})
}

func TestEncodeBytes(t *testing.T) {
	const most = api.MaxBlob - 88
	if b := laid(t, "MaxBlob bytes", valued(most)); len(b) != api.MaxBlob {
		t.Fatal(len(b))
	}
	laid(t, "MaxBlob bytes, with noughts", valued(most-3))
	refuses(t, "a value's byte more", valued(most+1), api.ErrMany)
	x := valued(most)
	x.Root.Props[0].Name = "abcd"
	refuses(t, "a name's byte more", x, api.ErrMany)
	x.Root.Props[0].Value = make([]byte, most-4)
	laid(t, "a name's byte more, a cell less", x)
	x = valued(most)
	x.Root.Kids = []api.Node{{Name: "a"}}
	refuses(t, "a node more", x, api.ErrMany)
	x.Root.Props[0].Value = make([]byte, most-12)
	laid(t, "a node more, three cells less", x)
	x = valued(most)
	x.Reserves = []api.Reserve{{At: 1}}
	refuses(t, "a reserve more", x, api.ErrMany)
	x.Root.Props[0].Value = make([]byte, most-16)
	laid(t, "a reserve more, four cells less", x)
	x = valued(most)
	x.Boot = math.MaxUint32
	laid(t, "a boot", x)
}

func TestEncodeFarTooManyBytes(t *testing.T) {
	for _, n := range []int{api.MaxBlob - 40, api.MaxBlob - 1, api.MaxBlob, api.MaxBlob + 1, 1 << 26} {
		refuses(t, "a value of "+strconv.Itoa(n)+" bytes", valued(n), api.ErrMany)
		deep := rooted(node("", node("a"), node("b", api.Node{Name: "c", Props: valued(n).Root.Props}), node("d")))
		refuses(t, "a value of "+strconv.Itoa(n)+" bytes, deeper", deep, api.ErrMany)
	}
	_, props := numbered(8192)
	for _, n := range []int{128, 1 << 19, 1 << 20} {
		value := make([]byte, n)
		for i := range props {
			props[i].Value = value
		}
		was := allocated()
		refuses(t, "8192 values of "+strconv.Itoa(n)+" bytes", rooted(api.Node{Props: props}), api.ErrMany)
		if n := allocated() - was; n > 1<<26 {
			t.Errorf("values that share memory are all copied: %d bytes", n)
		}
	}
}

func allocated() uint64 {
	var m runtime.MemStats
	runtime.ReadMemStats(&m)
	return m.TotalAlloc
}

func TestEncodeLeavesWhatItIsGiven(t *testing.T) {
	x := full()
	value := append(x.Root.Kids[0].Props[0].Value, "room"...)
	x.Root.Kids[0].Props[0].Value = value[:2]
	props := append(x.Root.Props, api.Prop{Name: "room"}, api.Prop{Name: "room"})
	x.Root.Props = props[:2]
	kids := append(x.Root.Kids, api.Node{Name: "room"})
	x.Root.Kids = kids[:2]
	reserves := append(x.Reserves, api.Reserve{At: 9, Size: 9})
	x.Reserves = reserves[:2]
	encodes(t, "lists with spare room", x, hexed(t, fullBlob))
	if !tree.Equal(x, full()) {
		t.Error("what was handed in is changed")
	}
	if string(value) != "x#room" || props[2].Name != "room" || props[3].Name != "room" || kids[2].Name != "room" || reserves[2].At != 9 {
		t.Error("the spare room of what was handed in is changed")
	}
}

func TestEncodeIsNewMemory(t *testing.T) {
	x, want := full(), hexed(t, fullBlob)
	b, _ := Encode(x)
	c, _ := Encode(x)
	clear(b[:cap(b)])
	if !bytes.Equal(c, want) || !tree.Equal(x, full()) {
		t.Error("an answer shares memory with another one, or with what was handed in")
	}
	for _, p := range x.Root.Props {
		clear(p.Value)
	}
	clear(x.Reserves)
	clear(x.Root.Props)
	clear(x.Root.Kids)
	if !bytes.Equal(c, want) {
		t.Error("the answer changes with what was handed in")
	}
	encodes(t, "once more", full(), want)
}
