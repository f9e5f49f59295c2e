package encode

import (
	"bytes"
	"slices"
	"strings"
	"testing"

	"arboret/api"
	"arboret/decode"
	"arboret/tree"
)

// The tests of this file are P5.1's of Layout, and, of it, the rules R1 to R3's.

func TestLayoutOfWhatIsEncoded(t *testing.T) {
	if !Layout(hexed(t, fullBlob)) {
		t.Error("two of everything")
	}
	p := partsOf(t, hexed(t, fullBlob))
	if !bytes.Equal(p.joined(), hexed(t, fullBlob)) {
		t.Fatal("the parts aren't joined as they were")
	}
	p.boot = 0
	if !Layout(p.joined()) {
		t.Error("another boot")
	}
	p.reserves = make([]byte, 16)
	if !Layout(p.joined()) {
		t.Error("no reserves")
	}
}

// Each of these is decoded as the same tree, but is laid out otherwise.
func TestLayoutOfWhatIsNot(t *testing.T) {
	p := partsOf(t, hexed(t, fullBlob))
	ahead := func(at int, more ...uint32) parts {
		q := p
		q.structure = slices.Concat(p.structure[:at], cells(more...), p.structure[at:])
		return q
	}
	// renamed answers p with other texts, the names of which begin there.
	renamed := func(texts string, places map[byte]uint32) parts {
		q := p
		q.texts = []byte(texts)
		q.structure = bytes.Clone(p.structure)
		for _, at := range []int{8, 24, 48, 64, 92, 108, 156} {
			copy(q.structure[at+8:], cells(places[q.structure[at+11]]))
		}
		return q
	}
	gap := func(k, n int) parts {
		q := p
		q.gaps[k] = make([]byte, n)
		return q
	}
	more := p
	more.reserves = append(bytes.Clone(p.reserves), make([]byte, 16)...)
	backwards := p
	backwards.backwards = true
	backwards.gaps[1], backwards.gaps[2] = make([]byte, 2), make([]byte, 8)
	for _, c := range []struct {
		what string
		p    parts
	}{
		{"NOTHING first", ahead(0, 4)},
		{"NOTHING ahead of a property", ahead(8, 4)},
		{"NOTHING ahead of a node", ahead(40, 4)},
		{"NOTHING ahead of an end", ahead(192, 4)},
		{"NOTHING ahead of the last token", ahead(196, 4)},
		{"two NOTHINGs", ahead(8, 4, 4)},
		{"texts in another order", renamed("eg\x00reg\x00x#\x00b\x00x\x00", map[byte]uint32{0: 3, 4: 0, 7: 7, 10: 10, 12: 12})},
		{"two texts in another order", renamed("reg\x00eg\x00x#\x00x\x00b\x00", map[byte]uint32{0: 0, 4: 4, 7: 7, 10: 12, 12: 10})},
		{"a text within another", renamed("reg\x00x#\x00b\x00x\x00", map[byte]uint32{0: 0, 4: 1, 7: 4, 10: 7, 12: 9})},
		{"a text that nobody has, first", renamed("a\x00reg\x00eg\x00x#\x00b\x00x\x00", map[byte]uint32{0: 2, 4: 6, 7: 9, 10: 12, 12: 14})},
		{"a text that nobody has, last", renamed("reg\x00eg\x00x#\x00b\x00x\x00a\x00", map[byte]uint32{0: 0, 4: 4, 7: 7, 10: 10, 12: 12})},
		{"a text once more", renamed("reg\x00eg\x00x#\x00b\x00x\x00reg\x00", map[byte]uint32{0: 14, 4: 4, 7: 7, 10: 10, 12: 12})},
		{"a nought more behind the texts", renamed("reg\x00eg\x00x#\x00b\x00x\x00\x00", map[byte]uint32{0: 0, 4: 4, 7: 7, 10: 10, 12: 12})},
		{"a text without a nought", renamed("reg\x00eg\x00x#\x00b\x00x\x00a", map[byte]uint32{0: 0, 4: 4, 7: 7, 10: 10, 12: 12})},
		{"reserves beyond 40", gap(0, 8)},
		{"bytes between the reserves and the structure", gap(1, 4)},
		{"noughts behind the reserves' end", more},
		{"bytes between the structure and the texts", gap(2, 4)},
		{"a byte between the structure and the texts", gap(2, 1)},
		{"a byte at the end", gap(3, 1)},
		{"bytes at the end", gap(3, 16)},
		{"the texts, the structure, the reserves", backwards},
	} {
		x, e := decode.Decode(c.p.joined())
		if e != api.OK || !tree.Equal(x, full()) {
			t.Errorf("%s is no test: %v", c.what, e)
		}
		if Layout(c.p.joined()) {
			t.Errorf("%s: it isn't what its tree is encoded as", c.what)
		}
		encodes(t, c.what, x, hexed(t, fullBlob))
	}
}

func TestLayoutOfNoTexts(t *testing.T) {
	b, _ := Encode(api.Tree{})
	for _, at := range []uint32{40, 41, 56, 71} {
		c := bytes.Clone(b)
		copy(c[12:], cells(at))
		if x, e := decode.Decode(c); e != api.OK || !tree.Equal(x, api.Tree{}) || Layout(c) {
			t.Errorf("texts of no bytes at %d: %v", at, e)
		}
	}
}

func TestLayoutOfNoTree(t *testing.T) {
	b := hexed(t, fullBlob)
	if Layout(nil) || Layout([]byte{}) || Layout(make([]byte, 72)) || Layout(make([]byte, api.MaxBlob+1)) {
		t.Error("bytes that are no blob")
	}
	for k := range b {
		if Layout(b[:k]) || Layout(b[:k:k]) {
			t.Errorf("the first %d bytes", k)
		}
	}
	if Layout(append(b, 0)) {
		t.Error("a byte behind the end that isn't told of")
	}
}

// A blob whose tree can't be encoded, as the names, each once, are more bytes than MaxBlob.
func TestLayoutOfTooMany(t *testing.T) {
	p := parts{reserves: make([]byte, 16), texts: []byte("abc\x00")}
	p.structure = slices.Concat(cells(1, 0, 3, 0, 0, 3, 0, 1), cells(3, api.MaxBlob-112, 2), make([]byte, api.MaxBlob-112), cells(2, 9))
	x, e := decode.Decode(p.joined())
	if e != api.OK || len(p.joined()) != api.MaxBlob {
		t.Fatal(e, len(p.joined()))
	}
	if Layout(p.joined()) {
		t.Error("a tree that isn't encoded")
	}
	refuses(t, "names that overlap", x, api.ErrMany)
	x.Root.Props[2].Value = x.Root.Props[2].Value[8:]
	laid(t, "names that overlap, two cells less", x)
}

// Two blobs that are laid out so are of two trees.
func TestLayoutIsOfOneTree(t *testing.T) {
	b := hexed(t, fullBlob)
	laidOut := 0
	for at := range b {
		for _, x := range []byte{0, 1, 2, 3, 4, 9, 'a', 'e', 'r', 'x', '@', 255, b[at] + 1, b[at] - 1, b[at] ^ 0x80} {
			c := bytes.Clone(b)
			c[at] = x
			if x == b[at] || !Layout(c) {
				continue
			}
			laidOut++
			if y, e := decode.Decode(c); e != api.OK || tree.Equal(y, full()) {
				t.Errorf("byte %d is %d: %v", at, x, e)
			}
		}
	}
	if laidOut < 100 {
		t.Errorf("the bytes are no test: %d are laid out so", laidOut)
	}
}

func TestLayoutLeavesItsBytes(t *testing.T) {
	for _, s := range []string{fullBlob, strings.Replace(fullBlob, "0000012e", "0000012f", 1) + "00"} {
		b := hexed(t, s)
		room := append(bytes.Clone(b), bytes.Repeat([]byte{9}, 64)...)
		was := bytes.Clone(room)
		if Layout(room[:len(b)]) != (s == fullBlob) || Layout(b) != (s == fullBlob) {
			t.Error("what is behind the bytes counts, or the first call does")
		}
		if !bytes.Equal(room, was) {
			t.Error("what was handed in, or its spare room, is changed")
		}
	}
}
