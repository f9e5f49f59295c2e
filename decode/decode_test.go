package decode

import (
	"bytes"
	"encoding/binary"
	"math"
	"math/rand/v2"
	"slices"
	"strconv"
	"strings"
	"testing"

	"arboret/api"
	"arboret/tree"
)

// The tests of this file are P4.2 and P4.3's, P1's second half, and, of Decode, the rules R1 to R6's.

func decodes(t *testing.T, what string, b []byte, want api.Tree) {
	t.Helper()
	x, e := Decode(b)
	if e != api.OK || !tree.Equal(x, want) {
		t.Errorf("%s: %v, %v", what, x, e)
	}
	whole(t, what, x, e)
}

// full answers a tree with two of everything; each call's is of memory of its own.
func full() api.Tree {
	leaf := api.Node{Name: "leaf", Props: []api.Prop{{Name: "x", Value: []byte{1, 2}}}}
	return api.Tree{
		Boot:     7,
		Reserves: []api.Reserve{{At: 1, Size: 2}, {At: 3, Size: 4}},
		Root: api.Node{
			Props: []api.Prop{{Name: "a", Value: []byte("value")}, {Name: "b", Value: []byte("vb")}},
			Kids: []api.Node{
				{Name: "k@1", Props: []api.Prop{{Name: "c", Value: []byte("vc")}}, Kids: []api.Node{leaf, {Name: "other"}}},
				{Name: "l", Props: []api.Prop{{Name: "a"}}},
			},
		},
	}
}

func rooted(n api.Node) api.Tree { return api.Tree{Root: n} }

func TestDecodeTrees(t *testing.T) {
	decodes(t, "a root alone", layout{structure: structured()}.bytes(), api.Tree{})
	decodes(t, "two of everything", laid(full()), full())
	for _, boot := range []uint32{1, 1 << 31, math.MaxUint32} {
		decodes(t, "a boot", layout{boot: boot, structure: structured()}.bytes(), api.Tree{Boot: boot})
	}
	decodes(t, "one name on two levels, and of a property", of(structured(has(regAt, ""), node("reg", node("reg")))).bytes(), rooted(api.Node{
		Props: []api.Prop{{Name: "reg"}}, Kids: []api.Node{{Name: "reg", Kids: []api.Node{{Name: "reg"}}}},
	}))
}

func TestDecodeValues(t *testing.T) {
	for n := range 10 {
		value := "\x04\x02\x09\xff\x00\x00\x01\x03\x05"[:n]
		decodes(t, "a value", of(structured(has(regAt, value), has(handleAt, "next"))).bytes(), rooted(api.Node{
			Props: []api.Prop{{Name: "reg", Value: []byte(value)}, {Name: "phandle", Value: []byte("next")}},
		}))
	}
	long := strings.Repeat("v", 1<<19)
	decodes(t, "a long value", of(structured(has(regAt, long))).bytes(), rooted(api.Node{Props: []api.Prop{{Name: "reg", Value: []byte(long)}}}))
}

func TestDecodeNames(t *testing.T) {
	longest := strings.Repeat("a", 31)
	for _, s := range []string{"a", "ab", "abc", "abcd", "a@1", "_,._+-9", longest, longest + "@" + longest} {
		decodes(t, s, of(structured(node(s), node("next"))).bytes(), rooted(api.Node{Kids: []api.Node{{Name: s}, {Name: "next"}}}))
	}
	for _, c := range []struct {
		at   uint32
		want string
	}{{regAt, "reg"}, {handleAt, "phandle"}, {andleAt, "andle"}, {marksAt, "#a?"}, {longestAt, "1234567890123456789012345678901"}} {
		decodes(t, c.want, of(structured(has(c.at, "v"))).bytes(), rooted(api.Node{Props: []api.Prop{{Name: c.want, Value: []byte("v")}}}))
	}
}

func TestDecodeReserves(t *testing.T) {
	most := slices.Repeat([]uint64{1, 0}, 64)
	for _, l := range [][]uint64{nil, {1, 2}, {0, 1}, {1, 0}, {math.MaxUint64, math.MaxUint64, 1 << 32, 1 << 63, 0, 1 << 32}, most} {
		want := api.Tree{}
		for k := 0; k < len(l); k += 2 {
			want.Reserves = append(want.Reserves, api.Reserve{At: l[k], Size: l[k+1]})
		}
		decodes(t, "reserves", layout{reserves: l, structure: structured()}.bytes(), want)
	}
	more := layout{reserves: append(most, 1, 1), structure: structured()}
	broken := layout{reserves: more.reserves, structure: cellsOf(2)}
	refuses(t, []refused{
		{"one too many", more.bytes(), api.ErrMany},
		{"far too many", layout{reserves: slices.Repeat([]uint64{1, 0}, 60000), structure: structured()}.bytes(), api.ErrMany},
		{"one too many, ahead of the structure", broken.bytes(), api.ErrMany},
	})
}

// atEnd answers a blob whose reserves are its last part, those alone.
func atEnd(reserves []uint64, structure []byte) []byte {
	head := cellsOf(0xd00dfeed, 0, 40, 40, uint32(40+len(structure)), 17, 16, 0, 0, uint32(len(structure)))
	b := append(head, structure...)
	for _, v := range reserves {
		b = binary.BigEndian.AppendUint64(b, v)
	}
	return set(b, totalAt, uint32(len(b)))
}

func TestDecodeReservesEnd(t *testing.T) {
	root := structured()
	decodes(t, "the end is the blob's", atEnd([]uint64{1, 2, 0, 0}, root), api.Tree{Reserves: []api.Reserve{{At: 1, Size: 2}}})
	decodes(t, "no reserve, at the end", atEnd([]uint64{0, 0}, root), api.Tree{})
	decodes(t, "the first noughts end them", atEnd([]uint64{1, 2, 0, 0, 3, 4}, root), api.Tree{Reserves: []api.Reserve{{At: 1, Size: 2}}})
	short := atEnd([]uint64{1, 2, 0, 0}, root)
	short = set(short[:len(short)-1], totalAt, uint32(len(short)-1))
	refuses(t, []refused{
		{"no end", atEnd([]uint64{1, 2}, root), api.ErrForm},
		{"nothing", atEnd(nil, root), api.ErrForm},
		{"half an end", atEnd([]uint64{1, 2, 0}, root), api.ErrForm},
		{"an end that is a byte short", short, api.ErrForm},
		{"an end that isn't at a reserve", atEnd([]uint64{1, 0, 0, 2}, root), api.ErrForm},
		{"no end, ahead of too many", atEnd(slices.Repeat([]uint64{1}, 200), root), api.ErrForm},
		{"no end, ahead of the structure's error", atEnd([]uint64{1, 2}, structured(node("0"))), api.ErrForm},
	})
}

// The parts may stand in any order, may overlap, and there may be bytes between them.
func TestDecodeParts(t *testing.T) {
	l := of(structured(has(regAt, "v")))
	want := rooted(api.Node{Props: []api.Prop{{Name: "reg", Value: []byte("v")}}})
	decodes(t, "in order", l.bytes(), want)
	texts := padded([]byte(someTexts))
	b := cellsOf(0xd00dfeed, 0, uint32(44+len(texts)), 44, 0, 17, 16, 0, uint32(len(texts)), uint32(len(l.structure)))
	b = slices.Concat(b, cellsOf(77), texts, l.structure, cellsOf(77))
	for len(b)%8 != 0 {
		b = append(b, 77)
	}
	b = set(b, reserveAt, uint32(len(b)))
	b = append(b, l.reserveBytes()...)
	decodes(t, "the other way round", set(b, totalAt, uint32(len(b))), want)
	inside := layout{structure: structured(has(16, "reg\x00"))}
	b = inside.bytes()
	at := uint32(56)
	decodes(t, "the texts within the structure", set(set(b, textAt, at+4), textSizeAt, uint32(len(inside.structure))-4), rooted(api.Node{
		Props: []api.Prop{{Name: "reg", Value: []byte("reg\x00")}},
	}))
}

func TestDecodeNothing(t *testing.T) {
	n := noToken
	decodes(t, "nothing ahead of each token", of(n, begins(""), n, has(regAt, "v"), n, has(handleAt, ""), n, begins("a"), n, ends, n, begins("b"), n, has(regAt, ""), n, ends, n, ends, n, lastly).bytes(), rooted(api.Node{
		Props: []api.Prop{{Name: "reg", Value: []byte("v")}, {Name: "phandle"}},
		Kids:  []api.Node{{Name: "a"}, {Name: "b", Props: []api.Prop{{Name: "reg"}}}},
	}))
	decodes(t, "nothing and nothing", of(n, n, n, begins(""), n, n, ends, n, n, lastly).bytes(), api.Tree{})
	refuses(t, []refused{
		{"nothing alone", of(n).bytes(), api.ErrForm},
		{"nothing behind the last one", of(structured(), n).bytes(), api.ErrForm},
		{"nothing instead of the last one", of(begins(""), ends, n).bytes(), api.ErrForm},
		{"nothing ahead of no token", of(begins(""), n).bytes(), api.ErrForm},
		{"nothing within a name", of(cellsOf(1, 4, 0), ends, lastly).bytes(), api.ErrForm},
	})
	decodes(t, "cells that are no tokens", of(begins(""), cellsOf(3, 4, 4, 4), ends, lastly).bytes(), rooted(api.Node{
		Props: []api.Prop{{Name: "phandle", Value: []byte{0, 0, 0, 4}}},
	}))
}

func TestDecodeTokensThatCannotStand(t *testing.T) {
	for _, v := range []uint32{0, 5, 6, 7, 8, 10, 0x01000000, 0x80000001, 0xffffffff, 257, 1 << 16} {
		x := cellsOf(v)
		refuses(t, []refused{
			{"an unknown token first", of(x, structured()).bytes(), api.ErrForm},
			{"an unknown token in the root", of(structured(x)).bytes(), api.ErrForm},
			{"an unknown token at the end", of(begins(""), ends, x, lastly).bytes(), api.ErrForm},
		})
	}
	refuses(t, []refused{
		{"no structure", layout{}.bytes(), api.ErrForm},
		{"the end first", of(ends, lastly).bytes(), api.ErrForm},
		{"the last one first", of(lastly).bytes(), api.ErrForm},
		{"a property first", of(has(regAt, ""), structured()).bytes(), api.ErrForm},
		{"no last one", of(begins(""), ends).bytes(), api.ErrForm},
		{"no end", of(begins("")).bytes(), api.ErrForm},
		{"the last one in the root", of(begins(""), lastly).bytes(), api.ErrForm},
		{"the last one in a node", of(begins(""), begins("a"), lastly).bytes(), api.ErrForm},
		{"the last one in the root, behind a node", of(begins(""), node("a"), lastly).bytes(), api.ErrForm},
		{"an end too many", of(begins(""), ends, ends, lastly).bytes(), api.ErrForm},
		{"a second root", of(node(""), node(""), lastly).bytes(), api.ErrForm},
		{"a node beside the root", of(node(""), node("a"), lastly).bytes(), api.ErrForm},
		{"a property beside the root", of(node(""), has(regAt, ""), lastly).bytes(), api.ErrForm},
		{"a property behind a node", of(structured(node("a"), has(regAt, ""))).bytes(), api.ErrForm},
		{"a property behind a node, deeper", of(structured(node("a", node("b"), has(regAt, "")))).bytes(), api.ErrForm},
		{"a property behind a node that has some", of(structured(has(regAt, ""), node("a", has(regAt, "")), has(handleAt, ""))).bytes(), api.ErrForm},
		{"a cell behind the last one", of(structured(), cellsOf(0)).bytes(), api.ErrForm},
		{"a tree behind the last one", of(structured(), structured()).bytes(), api.ErrForm},
		{"a byte behind the last one", of(structured(), []byte{0}).bytes(), api.ErrForm},
	})
}

// cut answers l's blob with a structure that is told to be n bytes less.
func (l layout) cut(n int) []byte {
	return set(l.bytes(), structSizeAt, uint32(len(l.structure)-n))
}

// What is behind the structure's end doesn't belong to it, even where it is what is missing.
func TestDecodeStructureEnds(t *testing.T) {
	l := of(structured(has(regAt, "value"), node("abcd")))
	for n := 1; n <= len(l.structure); n++ {
		refuses(t, []refused{{"a structure that is cut " + strconv.Itoa(n), l.cut(n), api.ErrForm}})
	}
	bad := of(structured(node("0123")))
	refuses(t, []refused{
		{"a name that ends behind it", bad.cut(17), api.ErrForm},
		{"a name whose nought is behind it", bad.cut(16), api.ErrForm},
		{"a name whose noughts are behind it", bad.cut(15), api.ErrForm},
		{"a name whose last nought is behind it", bad.cut(13), api.ErrForm},
		{"a name that is there", bad.cut(12), api.ErrName},
	})
}

func TestDecodeWhatBelongsToATokenIsNotThere(t *testing.T) {
	root := begins("")
	refuses(t, []refused{
		{"a root without a name", of(cellsOf(1)).bytes(), api.ErrForm},
		{"a name without a nought", of(root, cellsOf(1, 0x61616161)).bytes(), api.ErrForm},
		{"a name without all noughts", of(root, cellsOf(1), []byte("a\x00\x00")).bytes(), api.ErrForm},
		{"a property without cells", of(root, cellsOf(3)).bytes(), api.ErrForm},
		{"a property without a name's place", of(root, cellsOf(3, 0)).bytes(), api.ErrForm},
		{"a property of half a place", of(root, cellsOf(3, 0), []byte{0, 0}).bytes(), api.ErrForm},
		{"a value that isn't there", of(root, cellsOf(3, 1, 0)).bytes(), api.ErrForm},
		{"a value a byte short", of(root, cellsOf(3, 5, 0), []byte("valu")).bytes(), api.ErrForm},
		{"a value without noughts", of(root, cellsOf(3, 5, 0), []byte("value")).bytes(), api.ErrForm},
		{"a value without all noughts", of(root, cellsOf(3, 5, 0), []byte("value\x00\x00")).bytes(), api.ErrForm},
		{"a value of 2^32 - 1 bytes", of(root, cellsOf(3, math.MaxUint32, 0, 0), ends, lastly).bytes(), api.ErrForm},
		{"a value of 2^32 - 12 bytes", of(root, cellsOf(3, 0xfffffff4, 0, 0), ends, lastly).bytes(), api.ErrForm},
		{"a value of 2^31 bytes", of(root, cellsOf(3, 1<<31, 0, 0), ends, lastly).bytes(), api.ErrForm},
		{"a value up to the end", of(root, cellsOf(3, 8, 0), ends, lastly).bytes(), api.ErrForm},
	})
}

func TestDecodeNoughts(t *testing.T) {
	for _, s := range []string{"a\x00\x01\x00", "a\x00\x00\x01", "ab\x00\x80", "a\x00\xff\xff", "abcde\x00\x00\x01"} {
		refuses(t, []refused{{"a name's noughts", of(begins(""), cellsOf(1), []byte(s), ends, ends, lastly).bytes(), api.ErrForm}})
	}
	for _, s := range []string{"\x00\x01\x00\x00", "\x00\x00\x01\x00", "\x00\x00\x00\x01"} {
		refuses(t, []refused{{"the root's noughts", of(cellsOf(1), []byte(s), ends, lastly).bytes(), api.ErrForm}})
	}
	for size := range uint32(8) {
		for at := range uint32(8) {
			value := []byte{9, 9, 9, 9, 9, 9, 9, 9}
			clear(value[size:])
			value = value[:(size+3)/4*4]
			if at < size || int(at) >= len(value) {
				continue
			}
			value[at] = 1
			refuses(t, []refused{{"a value's noughts", of(begins(""), cellsOf(3, size, regAt), value, ends, lastly).bytes(), api.ErrForm}})
		}
	}
}

func chain(depth int, tokens ...[]byte) []byte {
	b := slices.Concat(tokens...)
	for range depth {
		b = node("a", b)
	}
	return b
}

func TestDecodeDeep(t *testing.T) {
	want := api.Node{Props: []api.Prop{{Name: "reg"}}}
	for range api.MaxDepth - 1 {
		want.Name = "a"
		want = api.Node{Kids: []api.Node{want}}
	}
	decodes(t, "MaxDepth", of(structured(chain(15, has(regAt, "")))).bytes(), rooted(want))
	ahead := slices.Concat(node("b", chain(14)), node("c"))
	refuses(t, []refused{
		{"two of MaxDepth", of(structured(chain(15), node("b", chain(14)))).bytes(), api.OK},
		{"one deeper", of(structured(chain(16))).bytes(), api.ErrDeep},
		{"one deeper, behind others", of(structured(ahead, chain(16))).bytes(), api.ErrDeep},
		{"far deeper", of(begins(""), slices.Repeat(begins("a"), 1<<16), slices.Repeat(ends, 1<<16)).bytes(), api.ErrDeep},
		{"deep ahead of its name", of(structured(chain(15, node("0")))).bytes(), api.ErrDeep},
		{"deep ahead of no name", of(structured(chain(15, node("")))).bytes(), api.ErrDeep},
		{"deep ahead of what follows", of(structured(chain(15, begins("a"), cellsOf(7)))).bytes(), api.ErrDeep},
		{"noughts ahead of deep", of(structured(chain(15, cellsOf(1, 0x61000001), ends))).bytes(), api.ErrForm},
		{"no name ahead of deep", of(begins(""), slices.Repeat(begins("a"), 15), cellsOf(1)).bytes(), api.ErrForm},
	})
}

func TestDecodeNamesThatAreNone(t *testing.T) {
	long := strings.Repeat("a", 32)
	for _, s := range []string{"", "0", "@", "@1", "a@", "a@1@2", "a/b", "a b", "#a", "a?", "é", "\xff", "\x01", long, "a@" + long, strings.Repeat("a", 1<<18)} {
		refuses(t, []refused{
			{"a node", of(structured(node(s))).bytes(), api.ErrName},
			{"a node, deeper", of(structured(node("a"), node("b", node(s)))).bytes(), api.ErrName},
			{"two nodes", of(structured(node(s), node(s))).bytes(), api.ErrName},
		})
	}
	for _, s := range []string{"a", "/", "root", "@", "0", "\x01"} {
		refuses(t, []refused{{"a root", of(node(s), lastly).bytes(), api.ErrName}})
	}
	for _, at := range []uint32{emptyAt, wrongAt, longAt, 3, 11} {
		refuses(t, []refused{
			{"a property", of(structured(has(at, "v"))).bytes(), api.ErrName},
			{"a property, deeper", of(structured(has(regAt, ""), node("a", has(regAt, ""), has(at, "")))).bytes(), api.ErrName},
			{"two properties", of(structured(has(at, ""), has(at, ""))).bytes(), api.ErrName},
		})
	}
}

func TestDecodeNamesThatAreNotThere(t *testing.T) {
	n := uint32(len(someTexts))
	for _, at := range []uint32{n, n + 1, n + 4, 1 << 20, 1 << 31, math.MaxUint32, math.MaxUint32 - 3} {
		refuses(t, []refused{{"a place", of(structured(has(at, ""))).bytes(), api.ErrForm}})
	}
	root := structured(has(1, "reg\x00"))
	refuses(t, []refused{
		{"no texts", layout{structure: root}.bytes(), api.ErrForm},
		{"a text that ends nowhere", layout{structure: root, texts: "reg"}.bytes(), api.ErrForm},
		{"a text that ends behind the texts", set(layout{structure: root, texts: "reg\x00"}.bytes(), textSizeAt, 3), api.ErrForm},
		{"a text that is no name, and ends behind the texts", set(layout{structure: root, texts: "r@g\x00"}.bytes(), textSizeAt, 3), api.ErrForm},
		{"a text that ends with the texts", layout{structure: root, texts: "reg\x00"}.bytes(), api.OK},
		{"a text behind the texts", set(layout{structure: root, texts: "reg\x00"}.bytes(), textSizeAt, 1), api.ErrForm},
		{"texts that end nowhere, of nobody", layout{structure: structured(), texts: "reg"}.bytes(), api.OK},
		{"texts that end nowhere, of others", layout{structure: root, texts: "reg\x00reg"}.bytes(), api.OK},
	})
}

func TestDecodeTwice(t *testing.T) {
	twice := layout{texts: "reg\x00reg\x00"}
	twice.structure = structured(has(0, "a"), has(4, "b"))
	refuses(t, []refused{
		{"two properties", of(structured(has(regAt, ""), has(regAt, ""))).bytes(), api.ErrTwice},
		{"two properties of one name in two places", twice.bytes(), api.ErrTwice},
		{"the first and the last", of(structured(has(regAt, ""), has(handleAt, ""), has(andleAt, ""), has(regAt, "v"))).bytes(), api.ErrTwice},
		{"two properties, deeper", of(structured(has(regAt, ""), node("a", has(regAt, "")), node("b", has(handleAt, ""), has(handleAt, "")))).bytes(), api.ErrTwice},
		{"one property in each of two nodes", of(structured(has(regAt, ""), node("a", has(regAt, "")), node("b", has(regAt, "")))).bytes(), api.OK},
		{"two nodes", of(structured(node("a"), node("a"))).bytes(), api.ErrTwice},
		{"two nodes apart", of(structured(node("a"), node("b"), node("c"), node("a"))).bytes(), api.ErrTwice},
		{"two nodes, deeper", of(structured(node("a", node("b"), node("b")))).bytes(), api.ErrTwice},
		{"two nodes behind one that has some", of(structured(node("a", node("b"), node("c")), node("a"))).bytes(), api.ErrTwice},
		{"one name below each of two nodes", of(structured(node("a", node("c")), node("b", node("c")))).bytes(), api.OK},
		{"one name below itself", of(structured(node("a", node("a", node("a"))))).bytes(), api.OK},
		{"one base", of(structured(node("a"), node("a@0"), node("a@00"), node("A"))).bytes(), api.OK},
		{"two of one unit", of(structured(node("a@1"), node("a@1"))).bytes(), api.ErrTwice},
		{"one name of a node and of a property", of(structured(has(regAt, ""), node("reg"))).bytes(), api.OK},
	})
}

// Each is told of the token that comes first, and of a token what is asked of it first.
func TestDecodeOrder(t *testing.T) {
	unknown := cellsOf(7)
	refuses(t, []refused{
		{"a name ahead of a token that can't stand behind it", of(structured(node("0"), unknown)).bytes(), api.ErrName},
		{"the root's name ahead of a token that can't stand behind it", of(begins("a"), unknown).bytes(), api.ErrName},
		{"the root's name ahead of two of one name", of(node("a", node("b"), node("b")), lastly).bytes(), api.ErrName},
		{"a property's name ahead of what follows", of(begins(""), has(emptyAt, ""), unknown).bytes(), api.ErrName},
		{"two properties ahead of what follows", of(begins(""), has(regAt, ""), has(regAt, ""), unknown).bytes(), api.ErrTwice},
		{"a token that can't stand ahead of a name", of(structured(unknown, node("0"))).bytes(), api.ErrForm},
		{"a name ahead of two of one name", of(structured(node("0"), node("a"), node("a"))).bytes(), api.ErrName},
		{"two of one name ahead of a name", of(structured(node("a"), node("a"), node("0"))).bytes(), api.ErrTwice},
		{"two of one name ahead of the names below", of(structured(node("a"), node("a", node("0")))).bytes(), api.ErrTwice},
		{"the names below the first ahead of the second", of(structured(node("a", node("0")), node("a"))).bytes(), api.ErrName},
		{"two of one name ahead of the end", of(begins(""), node("a"), begins("a")).bytes(), api.ErrTwice},
		{"two properties ahead of a node's name", of(structured(has(regAt, ""), has(regAt, ""), node("0"))).bytes(), api.ErrTwice},
		{"a property's name ahead of two properties", of(structured(has(emptyAt, ""), has(regAt, ""), has(regAt, ""))).bytes(), api.ErrName},
		{"a property's value ahead of its name", of(begins(""), cellsOf(3, 9, emptyAt)).bytes(), api.ErrForm},
		{"a property's noughts ahead of its name", of(begins(""), cellsOf(3, 1, emptyAt, 1), ends, lastly).bytes(), api.ErrForm},
		{"a node's noughts ahead of its name", of(begins(""), cellsOf(1, 0x30000001), ends, lastly).bytes(), api.ErrForm},
		{"where a property stands ahead of its name", of(structured(node("a"), has(emptyAt, ""))).bytes(), api.ErrForm},
		{"where a node stands ahead of its name", of(node(""), node("0"), lastly).bytes(), api.ErrForm},
		{"the header ahead of the structure", set(of(structured(node("0"))).bytes(), versionAt, 1), api.ErrVersion},
	})
}

// kids answers the tokens of n nodes of different names, each with those.
func kids(n int, tokens ...[]byte) []byte {
	var b []byte
	for i := range n {
		b = append(b, node("n"+strconv.Itoa(i), tokens...)...)
	}
	return b
}

func TestDecodeMany(t *testing.T) {
	two := slices.Concat(has(regAt, ""), has(handleAt, ""))
	refuses(t, []refused{
		{"MaxNodes nodes", of(structured(kids(4095))).bytes(), api.OK},
		{"one more", of(structured(kids(4096))).bytes(), api.ErrMany},
		{"one more, deeper", of(structured(kids(2047, node("a")), node("b"), node("c"))).bytes(), api.ErrMany},
		{"as many, deeper", of(structured(kids(2047, node("a")), node("b"))).bytes(), api.OK},
		{"MaxNodes nodes, MaxProps properties", of(structured(two, kids(4095, two))).bytes(), api.OK},
		{"a property more", of(structured(two, has(andleAt, ""), kids(4095, two))).bytes(), api.ErrMany},
		{"more nodes, and a byte behind the last token", of(structured(kids(4096)), []byte{0}).bytes(), api.ErrForm},
		{"more nodes, and a name that is none", of(structured(kids(4096), node("0"))).bytes(), api.ErrName},
		{"more nodes, and two of one name", of(structured(kids(4096), node("n7"))).bytes(), api.ErrTwice},
		{"more nodes, and no last token", of(begins(""), kids(4096), ends).bytes(), api.ErrForm},
		{"more nodes, and nothing", of(structured(kids(4096, noToken))).bytes(), api.ErrMany},
	})
}

// many answers a root of n properties of different names.
func many(n int) layout {
	l := layout{}
	var tokens []byte
	for i := range n {
		tokens = append(tokens, has(uint32(len(l.texts)), "")...)
		l.texts += strconv.FormatInt(int64(i), 36) + "\x00"
	}
	l.structure = structured(tokens)
	return l
}

func TestDecodeManyProperties(t *testing.T) {
	refuses(t, []refused{
		{"MaxProps properties of one node", many(8192).bytes(), api.OK},
		{"one more", many(8193).bytes(), api.ErrMany},
	})
	b := many(8193)
	b.structure = slices.Concat(b.structure[:len(b.structure)-8], has(0, ""), ends, lastly)
	refuses(t, []refused{{"more, and two of one name", b.bytes(), api.ErrTwice}})
}

// What is asked of each pair of a list would not end here in any time that a test has.
func TestDecodeWideBlobsEnd(t *testing.T) {
	refuses(t, []refused{
		{"as many nodes as a blob holds", of(structured(kids(60000))).bytes(), api.ErrMany},
		{"as many nothings", of(slices.Repeat(noToken, 1<<18-100)).bytes(), api.ErrForm},
		{"as many properties", many(50000).bytes(), api.ErrMany},
		{"a name that is the blob", of(begins(""), begins(strings.Repeat("a", 1<<20-400))).bytes(), api.ErrName},
	})
}

func TestDecodeBeginnings(t *testing.T) {
	b := laid(full())
	for k := range b {
		refuses(t, []refused{
			{"a beginning", b[:k], api.ErrForm},
			{"a beginning in room", b[:k:len(b)], api.ErrForm},
		})
	}
}

// Of any bytes comes a tree that is formed, or an error alone (P1, P4.3).
func TestDecodeOfAnyBytes(t *testing.T) {
	b := laid(full())
	for at := range b {
		for _, x := range []byte{0, 1, 2, 3, 4, 9, 16, 40, 'a', '@', 127, 128, 255, b[at] + 1, b[at] - 1} {
			c := bytes.Clone(b)
			c[at] = x
			y, e := Decode(c)
			whole(t, "a byte", y, e)
		}
	}
	r := rand.New(rand.NewPCG(4, 2))
	oks := 0
	for range 50000 {
		c := bytes.Clone(b)
		for range 1 + r.IntN(3) {
			c[40+r.IntN(len(c)-40)] = []byte{0, 1, 2, 3, 4, 9, 'a', byte(r.IntN(256))}[r.IntN(8)]
		}
		y, e := Decode(c)
		whole(t, "bytes", y, e)
		if e == api.OK {
			oks++
			if z, e := Decode(laid(y)); e != api.OK || !tree.Equal(y, z) {
				t.Fatalf("what is laid out isn't decoded as the same: %v, %v", y, z)
			}
		}
	}
	if oks < 1000 || oks > 49000 {
		t.Errorf("the bytes are no test: %d trees", oks)
	}
}

func FuzzDecode(f *testing.F) {
	f.Add([]byte(nil))
	f.Add(laid(full()))
	f.Add(laid(api.Tree{}))
	f.Add(of(noToken, structured(has(regAt, "v"), node("a@1", noToken))).bytes())
	f.Fuzz(func(t *testing.T, b []byte) {
		x, e := Decode(b)
		whole(t, "bytes", x, e)
		if h, he := Header(b); he != api.OK && (e != he || h != [10]uint32{}) {
			t.Error(e, he, h)
		}
		if e == api.OK {
			if y, e := Decode(laid(x)); e != api.OK || !tree.Equal(x, y) {
				t.Error(e, x, y)
			}
		}
	})
}

func TestDecodeIsNewMemory(t *testing.T) {
	b := laid(full())
	room := append(bytes.Clone(b), bytes.Repeat([]byte{9}, 64)...)
	was := bytes.Clone(room)
	x, e := Decode(room[:len(b)])
	if e != api.OK || !bytes.Equal(room, was) {
		t.Fatal("what was handed in, or its spare room, is changed", e)
	}
	clear(room)
	if !tree.Equal(x, full()) {
		t.Error("the answer changes with what was handed in")
	}
	copy(room, was)
	spoil(x.Root)
	for i := range x.Reserves[:cap(x.Reserves)] {
		x.Reserves[:cap(x.Reserves)][i] = api.Reserve{}
	}
	if !bytes.Equal(room, was) {
		t.Error("what was handed in changes with the answer")
	}
	decodes(t, "once more", room[:len(b)], full())
}

// spoil overwrites all that a node can reach, spare room too.
func spoil(n api.Node) {
	for _, p := range n.Props[:cap(n.Props)] {
		clear(p.Value[:cap(p.Value)])
	}
	for _, kid := range n.Kids[:cap(n.Kids)] {
		spoil(kid)
	}
	clear(n.Props[:cap(n.Props)])
	clear(n.Kids[:cap(n.Kids)])
}

// What is put behind one list of an answer, in its spare room, is in no other one.
func TestDecodeListsAreApart(t *testing.T) {
	b := of(structured(has(regAt, "a"), has(handleAt, "b"), has(andleAt, "c"), kids(3, has(regAt, "d"), has(handleAt, "e"), has(andleAt, "f"), kids(3)))).bytes()
	x, e := Decode(b)
	y, _ := Decode(b)
	if e != api.OK {
		t.Fatal(e)
	}
	grow(x.Root)
	if !tree.Equal(x, y) {
		t.Error("two lists of one answer share memory")
	}
}

func grow(n api.Node) {
	_ = append(n.Props, api.Prop{Name: "more"})
	_ = append(n.Kids, api.Node{Name: "more"})
	for _, p := range n.Props {
		_ = append(p.Value, "more"...)
	}
	for _, kid := range n.Kids {
		grow(kid)
	}
}

func TestDecodeHangsOnItsBytesAlone(t *testing.T) {
	for range 3 {
		decodes(t, "the same", laid(full()), full())
		if _, e := Decode(of(structured(node("l"), node("l"))).bytes()); e != api.ErrTwice {
			t.Error(e)
		}
	}
}
