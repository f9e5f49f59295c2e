package decode

import (
	"bytes"
	"math"
	"testing"

	"arboret/api"
)

// The tests of this file are P4.1's, and, of Header, the rules R1, R2, R3 and R5's.

type headed struct {
	what string
	b    []byte
	want api.Errno
}

func heads(t *testing.T, l []headed) {
	t.Helper()
	for _, c := range l {
		h, e := Header(c.b)
		if e != c.want {
			t.Errorf("%s: %v, not %v", c.what, e, c.want)
		}
		if e != api.OK && h != [10]uint32{} {
			t.Errorf("%s: %v beside an error", c.what, h)
		}
		if _, d := Decode(c.b); e != api.OK && d != e {
			t.Errorf("%s: Decode answers %v, not Header's %v", c.what, d, e)
		}
	}
}

// small is 88 bytes: the reserves at 40 (one, and the noughts), the structure at 72 (16 bytes), no texts.
func small() []byte {
	return layout{boot: 0x12345678, reserves: []uint64{1, 2}, structure: structured()}.bytes()
}

func TestHeader(t *testing.T) {
	want := [10]uint32{0xd00dfeed, 88, 72, 88, 40, 17, 16, 0x12345678, 0, 16}
	if h, e := Header(small()); e != api.OK || h != want {
		t.Error(h, e)
	}
	l := of(structured())
	b := l.bytes()
	n := uint32(len(b))
	want = [10]uint32{0xd00dfeed, n, 56, 72, 40, 17, 16, 0, uint32(len(l.texts)), 16}
	if h, e := Header(b); e != api.OK || h != want {
		t.Error(h, e)
	}
}

func TestHeaderLengths(t *testing.T) {
	least := cellsOf(0xd00dfeed, 40, 40, 40, 40, 17, 16, 0, 0, 0)
	most := make([]byte, api.MaxBlob+1)
	copy(most, set(small(), totalAt, api.MaxBlob))
	heads(t, []headed{
		{"nil", nil, api.ErrForm},
		{"no bytes", []byte{}, api.ErrForm},
		{"a byte", []byte{0xd0}, api.ErrForm},
		{"39 bytes", least[:39], api.ErrForm},
		{"39 bytes, and spare room", least[:39:40], api.ErrForm},
		{"39 bytes of no magic", make([]byte, 39), api.ErrForm},
		{"40 bytes", least, api.OK},
		{"MaxBlob bytes", most[:api.MaxBlob], api.OK},
		{"more than MaxBlob", set(most, totalAt, api.MaxBlob+1), api.ErrForm},
		{"more than MaxBlob, of no magic", make([]byte, api.MaxBlob+1), api.ErrForm},
		{"MaxBlob bytes of no magic", make([]byte, api.MaxBlob), api.ErrMagic},
	})
	for k := range small() {
		heads(t, []headed{{"a beginning", small()[:k], api.ErrForm}})
	}
}

func TestHeaderMagicAndVersion(t *testing.T) {
	b := small()
	broken := set(b, structAt, 1)
	heads(t, []headed{
		{"no magic", set(b, magicAt, 0), api.ErrMagic},
		{"the magic backwards", set(b, magicAt, 0xedfe0dd0), api.ErrMagic},
		{"the magic's first byte", set(b, magicAt, 0xd10dfeed), api.ErrMagic},
		{"the magic's last byte", set(b, magicAt, 0xd00dfeec), api.ErrMagic},
		{"version 16", set(b, versionAt, 16), api.ErrVersion},
		{"version 18", set(b, versionAt, 18), api.ErrVersion},
		{"version 0", set(b, versionAt, 0), api.ErrVersion},
		{"compatible down to 15", set(b, compatAt, 15), api.ErrVersion},
		{"compatible down to 17", set(b, compatAt, 17), api.ErrVersion},
		{"16 and 17", set(set(b, versionAt, 16), compatAt, 17), api.ErrVersion},
		{"no magic ahead of the version", set(set(b, versionAt, 1), magicAt, 1), api.ErrMagic},
		{"no magic ahead of the form", set(broken, magicAt, 1), api.ErrMagic},
		{"the version ahead of the form", set(broken, versionAt, 1), api.ErrVersion},
		{"the version ahead of how many there are", set(set(b, totalAt, 1), compatAt, 1), api.ErrVersion},
		{"noughts alone", make([]byte, 88), api.ErrMagic},
	})
}

func TestHeaderTotal(t *testing.T) {
	b := small()
	heads(t, []headed{
		{"one more", set(b, totalAt, 89), api.ErrForm},
		{"one less", set(b, totalAt, 87), api.ErrForm},
		{"none", set(b, totalAt, 0), api.ErrForm},
		{"2^32 - 1", set(b, totalAt, math.MaxUint32), api.ErrForm},
		{"2^31 more", set(b, totalAt, 1<<31+88), api.ErrForm},
		{"a byte behind", append(bytes.Clone(b), 0), api.ErrForm},
		{"a byte behind that is told of", set(append(bytes.Clone(b), 0), totalAt, 89), api.OK},
	})
}

// parted answers small with a part at that place, of that size.
func parted(placeCell int, place uint32, sizeCell int, size uint32) []byte {
	return set(set(small(), placeCell, place), sizeCell, size)
}

func TestHeaderStructure(t *testing.T) {
	at := func(place, size uint32) []byte { return parted(structAt, place, structSizeAt, size) }
	heads(t, []headed{
		{"at 40", at(40, 48), api.OK},
		{"at 40, one too many", at(40, 49), api.ErrForm},
		{"at 39", at(39, 4), api.ErrForm},
		{"at 36", at(36, 4), api.ErrForm},
		{"at 0", at(0, 88), api.ErrForm},
		{"at 41", at(41, 4), api.ErrForm},
		{"at 42", at(42, 4), api.ErrForm},
		{"at 44", at(44, 44), api.OK},
		{"up to the end", at(84, 4), api.OK},
		{"one beyond", at(84, 5), api.ErrForm},
		{"of no bytes, at the end", at(88, 0), api.OK},
		{"of no bytes, beyond the end", at(92, 0), api.ErrForm},
		{"of a byte, at the end", at(88, 1), api.ErrForm},
		{"that wraps round", at(44, 0xffffffff), api.ErrForm},
		{"that wraps round to 0", at(0xfffffffc, 4), api.ErrForm},
		{"that wraps round to within", at(0xfffffffc, 8), api.ErrForm},
		{"far away", at(1<<31, 0), api.ErrForm},
		{"far away, of far fewer", at(1<<31, 1<<31), api.ErrForm},
	})
}

func TestHeaderTexts(t *testing.T) {
	at := func(place, size uint32) []byte { return parted(textAt, place, textSizeAt, size) }
	heads(t, []headed{
		{"at 40", at(40, 48), api.OK},
		{"at 40, one too many", at(40, 49), api.ErrForm},
		{"at 39", at(39, 1), api.ErrForm},
		{"at 0", at(0, 0), api.ErrForm},
		{"at an odd place", at(41, 47), api.OK},
		{"up to the end", at(87, 1), api.OK},
		{"one beyond", at(87, 2), api.ErrForm},
		{"of no bytes, at the end", at(88, 0), api.OK},
		{"of no bytes, beyond the end", at(89, 0), api.ErrForm},
		{"of a byte, at the end", at(88, 1), api.ErrForm},
		{"that wrap round", at(41, 0xffffffff), api.ErrForm},
		{"that wrap round to 0", at(0xffffffff, 1), api.ErrForm},
		{"that wrap round to within", at(0xffffffff, 60), api.ErrForm},
		{"far away", at(1<<31, 0), api.ErrForm},
	})
}

func TestHeaderReserves(t *testing.T) {
	at := func(place uint32) []byte { return set(small(), reserveAt, place) }
	heads(t, []headed{
		{"at 48", at(48), api.OK},
		{"at 80", at(80), api.OK},
		{"at the end", at(88), api.OK},
		{"beyond the end", at(96), api.ErrForm},
		{"at 32", at(32), api.ErrForm},
		{"at 39", at(39), api.ErrForm},
		{"at 0", at(0), api.ErrForm},
		{"at 41", at(41), api.ErrForm},
		{"at 44", at(44), api.ErrForm},
		{"at 84", at(84), api.ErrForm},
		{"at 47", at(47), api.ErrForm},
		{"at 2^32 - 8", at(0xfffffff8), api.ErrForm},
		{"at 2^31", at(1 << 31), api.ErrForm},
	})
	refuses(t, []refused{{"reserves at the end", at(88), api.ErrForm}})
}

func TestHeaderLeavesItsBytes(t *testing.T) {
	b := small()
	room := append(b, 9, 9, 9, 9)
	was := bytes.Clone(room)
	h, _ := Header(room[:88])
	h[0] = 0
	if !bytes.Equal(room, was) {
		t.Error("what was handed in, or its spare room, is changed")
	}
	if h, e := Header(b); e != api.OK || h[0] != 0xd00dfeed {
		t.Error(h, e)
	}
}
