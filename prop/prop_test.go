package prop

import (
	"bytes"
	"math"
	"slices"
	"strings"
	"testing"

	"arboret/api"
	"arboret/tree"
)

// The tests of this package are P7.1's, and, of its calls, the rules R1 to R6's.

func TestCells(t *testing.T) {
	for _, c := range []struct {
		b    []byte
		want []uint32
		e    api.Errno
	}{
		{nil, nil, api.OK},
		{[]byte{}, nil, api.OK},
		{[]byte{0, 0, 1, 2}, []uint32{258}, api.OK},
		{[]byte{0, 0, 0, 0}, []uint32{0}, api.OK},
		{[]byte{0x80, 0xab, 0xcd, 0xef}, []uint32{0x80abcdef}, api.OK},
		{[]byte{0, 0, 0, 1, 255, 255, 255, 255}, []uint32{1, math.MaxUint32}, api.OK},
		{[]byte{0, 0, 0, 3, 0, 0, 0, 2, 0, 0, 0, 1}, []uint32{3, 2, 1}, api.OK},
		{make([]byte, 16), make([]uint32, 4), api.OK},
		{[]byte{0}, nil, api.ErrForm},
		{[]byte{1, 2}, nil, api.ErrForm},
		{[]byte{1, 2, 3}, nil, api.ErrForm},
		{[]byte{0, 0, 0, 1, 0}, nil, api.ErrForm},
		{[]byte{0, 0, 0, 1, 0, 0}, nil, api.ErrForm},
		{[]byte{0, 0, 0, 1, 0, 0, 0}, nil, api.ErrForm},
		{make([]byte, 17), nil, api.ErrForm},
	} {
		if l, e := Cells(c.b); !slices.Equal(l, c.want) || e != c.e {
			t.Errorf("Cells(%v) = %v, %v, not %v, %v", c.b, l, e, c.want, c.e)
		}
	}
}

func TestText(t *testing.T) {
	for _, c := range []struct {
		b, want string
		e       api.Errno
	}{
		{"ab\x00", "ab", api.OK},
		{"a\x00", "a", api.OK},
		{"\x00", "", api.OK},
		{" \n\x7f\x00", " \n\x7f", api.OK},
		{"\xff\xc3\x00", "\xff\xc3", api.OK},
		{"é\x00", "é", api.OK},
		{"", "", api.ErrForm},
		{"a", "", api.ErrForm},
		{"ab", "", api.ErrForm},
		{"a\x00\x00", "", api.ErrForm},
		{"\x00\x00", "", api.ErrForm},
		{"\x00a", "", api.ErrForm},
		{"\x00a\x00", "", api.ErrForm},
		{"a\x00b", "", api.ErrForm},
		{"a\x00b\x00", "", api.ErrForm},
		{"\x00\x00\x00\x01", "", api.ErrForm},
	} {
		if s, e := Text([]byte(c.b)); s != c.want || e != c.e {
			t.Errorf("Text(%q) = %q, %v, not %q, %v", c.b, s, e, c.want, c.e)
		}
	}
	if s, e := Text(nil); s != "" || e != api.ErrForm {
		t.Errorf("Text of nothing = %q, %v", s, e)
	}
}

func TestTexts(t *testing.T) {
	for _, c := range []struct {
		b    string
		want []string
		e    api.Errno
	}{
		{"", nil, api.OK},
		{"\x00", []string{""}, api.OK},
		{"\x00\x00\x00", []string{"", "", ""}, api.OK},
		{"ab\x00", []string{"ab"}, api.OK},
		{"a\x00b\x00", []string{"a", "b"}, api.OK},
		{"a\x00a\x00", []string{"a", "a"}, api.OK},
		{"abc\x00d\x00ef\x00", []string{"abc", "d", "ef"}, api.OK},
		{"a\x00\x00", []string{"a", ""}, api.OK},
		{"\x00a\x00", []string{"", "a"}, api.OK},
		{"a\x00\x00b\x00", []string{"a", "", "b"}, api.OK},
		{"\xff\x00\xc3\x00", []string{"\xff", "\xc3"}, api.OK},
		{"a", nil, api.ErrForm},
		{"a\x00b", nil, api.ErrForm},
		{"\x00a", nil, api.ErrForm},
		{"a\x00\x00b", nil, api.ErrForm},
		{"\x00\x00\x00\x01", nil, api.ErrForm},
	} {
		if l, e := Texts([]byte(c.b)); !slices.Equal(l, c.want) || e != c.e {
			t.Errorf("Texts(%q) = %q, %v, not %q, %v", c.b, l, e, c.want, c.e)
		}
	}
	if l, e := Texts(nil); len(l) != 0 || e != api.OK {
		t.Errorf("Texts of nothing = %q, %v", l, e)
	}
}

func TestWide(t *testing.T) {
	for _, c := range []struct {
		cells []uint32
		want  uint64
		e     api.Errno
	}{
		{nil, 0, api.OK},
		{[]uint32{}, 0, api.OK},
		{[]uint32{0}, 0, api.OK},
		{[]uint32{7}, 7, api.OK},
		{[]uint32{math.MaxUint32}, math.MaxUint32, api.OK},
		{[]uint32{1, 2}, 4294967298, api.OK},
		{[]uint32{0, 2}, 2, api.OK},
		{[]uint32{1, 0}, 1 << 32, api.OK},
		{[]uint32{0, 0}, 0, api.OK},
		{[]uint32{0, math.MaxUint32}, math.MaxUint32, api.OK},
		{[]uint32{0x80abcdef, 0x90123456}, 0x80abcdef90123456, api.OK},
		{[]uint32{math.MaxUint32, math.MaxUint32}, math.MaxUint64, api.OK},
		{[]uint32{0, 0, 0}, 0, api.ErrCells},
		{[]uint32{0, 0, 1}, 0, api.ErrCells},
		{[]uint32{1, 2, 3}, 0, api.ErrCells},
		{[]uint32{1, 2, 3, 4}, 0, api.ErrCells},
		{make([]uint32, 1<<16), 0, api.ErrCells},
	} {
		if v, e := Wide(c.cells); v != c.want || e != c.e {
			t.Errorf("Wide(%.8v) = %d, %v, not %d, %v", c.cells, v, e, c.want, c.e)
		}
	}
}

func TestOne(t *testing.T) {
	n := api.Node{
		Name: "cells",
		Props: []api.Prop{
			{Name: "a", Value: []byte{0, 0, 1, 2}},
			{Name: "most", Value: []byte{255, 255, 255, 255}},
			{Name: "zero", Value: []byte{0, 0, 0, 0}},
			{Name: "empty"},
			{Name: "none", Value: []byte{}},
			{Name: "short", Value: []byte{0, 0, 1}},
			{Name: "byte", Value: []byte{1}},
			{Name: "odd", Value: []byte{0, 0, 0, 1, 2}},
			{Name: "two", Value: []byte{0, 0, 0, 1, 0, 0, 0, 2}},
			{Name: "noughts", Value: make([]byte, 8)},
			{Name: "text", Value: []byte("abc\x00")},
			{Name: "", Value: []byte{0, 0, 0, 9}},
		},
		Kids: []api.Node{{Name: "b", Props: []api.Prop{{Name: "below", Value: []byte{0, 0, 0, 1}}}}},
	}
	for _, c := range []struct {
		name string
		want uint32
		ok   bool
		e    api.Errno
	}{
		{"a", 258, true, api.OK},
		{"most", math.MaxUint32, true, api.OK},
		{"zero", 0, true, api.OK},
		// Four bytes are a cell, whatever they were meant as.
		{"text", 0x61626300, true, api.OK},
		{"", 9, true, api.OK},
		{"empty", 0, false, api.ErrForm},
		{"none", 0, false, api.ErrForm},
		{"short", 0, false, api.ErrForm},
		{"byte", 0, false, api.ErrForm},
		{"odd", 0, false, api.ErrForm},
		{"two", 0, false, api.ErrForm},
		{"noughts", 0, false, api.ErrForm},
		{"other", 0, false, api.OK},
		{"A", 0, false, api.OK},
		{"a\x00", 0, false, api.OK},
		{"cells", 0, false, api.OK},
		{"b", 0, false, api.OK},
		{"below", 0, false, api.OK},
	} {
		if v, ok, e := One(n, c.name); v != c.want || ok != c.ok || e != c.e {
			t.Errorf("One(%q) = %#x, %v, %v, not %#x, %v, %v", c.name, v, ok, e, c.want, c.ok, c.e)
		}
	}
	if v, ok, e := One(api.Node{}, ""); v != 0 || ok || e != api.OK {
		t.Errorf("One of nothing = %d, %v, %v", v, ok, e)
	}
}

// Of several properties of one name, which a formed tree hasn't, the first one is asked, as layer 3 finds it.
func TestOneOfSeveral(t *testing.T) {
	cell, wrong := api.Prop{Name: "a", Value: []byte{0, 0, 0, 1}}, api.Prop{Name: "a", Value: []byte{1}}
	if v, ok, e := One(api.Node{Props: []api.Prop{cell, wrong}}, "a"); v != 1 || !ok || e != api.OK {
		t.Errorf("One of a cell ahead = %d, %v, %v", v, ok, e)
	}
	if v, ok, e := One(api.Node{Props: []api.Prop{wrong, cell}}, "a"); v != 0 || ok || e != api.ErrForm {
		t.Errorf("One of what is wrong ahead = %d, %v, %v", v, ok, e)
	}
}

func TestFromCells(t *testing.T) {
	for _, c := range []struct {
		cells []uint32
		want  []byte
	}{
		{nil, nil},
		{[]uint32{}, nil},
		{[]uint32{258}, []byte{0, 0, 1, 2}},
		{[]uint32{0}, []byte{0, 0, 0, 0}},
		{[]uint32{0x80abcdef, 1}, []byte{0x80, 0xab, 0xcd, 0xef, 0, 0, 0, 1}},
		{[]uint32{3, 2, math.MaxUint32}, []byte{0, 0, 0, 3, 0, 0, 0, 2, 255, 255, 255, 255}},
	} {
		if b := FromCells(c.cells...); !bytes.Equal(b, c.want) {
			t.Errorf("FromCells(%v) = %v, not %v", c.cells, b, c.want)
		}
	}
}

func TestFromTexts(t *testing.T) {
	for _, c := range []struct {
		l    []string
		want string
	}{
		{nil, ""},
		{[]string{}, ""},
		{[]string{""}, "\x00"},
		{[]string{"", ""}, "\x00\x00"},
		{[]string{"ab"}, "ab\x00"},
		{[]string{"a", "", "bc"}, "a\x00\x00bc\x00"},
		{[]string{"\xff", "é"}, "\xff\x00é\x00"},
		{[]string{"a\x00"}, "a\x00"},
		{[]string{"a\x00b"}, "a\x00"},
		{[]string{"a\x00b\x00c", "d"}, "a\x00d\x00"},
		{[]string{"a\x00\x00"}, "a\x00"},
		{[]string{"\x00"}, "\x00"},
		{[]string{"\x00a", "b"}, "\x00b\x00"},
	} {
		if b := FromTexts(c.l...); string(b) != c.want {
			t.Errorf("FromTexts(%q) = %q, not %q", c.l, b, c.want)
		}
	}
}

// spelled answers all texts of up to most bytes, of these bytes alone.
func spelled(most int, letters string) []string {
	l := []string{""}
	for i := 0; i < len(l); i++ {
		if len(l[i]) < most {
			for _, c := range []byte(letters) {
				l = append(l, l[i]+string([]byte{c}))
			}
		}
	}
	return l
}

// modelTexts splits where layer 7 counts, and tells what it says in another way.
func modelTexts(s string) ([]string, api.Errno) {
	if s == "" {
		return nil, api.OK
	}
	l := strings.Split(s, "\x00")
	if l[len(l)-1] != "" {
		return nil, api.ErrForm
	}
	return l[:len(l)-1], api.OK
}

func TestAllShortBytes(t *testing.T) {
	for _, s := range spelled(8, "\x00a\xff") {
		want, e := modelTexts(s)
		l, f := Texts([]byte(s))
		if !slices.Equal(l, want) || e != f {
			t.Fatalf("Texts(%q) = %q, %v, not %q, %v", s, l, f, want, e)
		}
		if back := FromTexts(l...); e == api.OK && string(back) != s {
			t.Fatalf("FromTexts of Texts(%q) = %q", s, back)
		}
		text, f := Text([]byte(s))
		if one := len(want) == 1; one != (f == api.OK) || one && text != want[0] || !one && (text != "" || f != api.ErrForm) {
			t.Fatalf("Text(%q) = %q, %v", s, text, f)
		}
		cells, f := Cells([]byte(s))
		if even := len(s)&3 == 0; even != (f == api.OK) || even && string(FromCells(cells...)) != s || !even && (len(cells) != 0 || f != api.ErrForm) {
			t.Fatalf("Cells(%q) = %v, %v", s, cells, f)
		}
	}
}

func TestLongValues(t *testing.T) {
	cells := make([]uint32, api.MaxBlob/4)
	texts := make([]string, api.MaxBlob/4)
	for i := range cells {
		cells[i] = uint32(i) * 0x9e3779b1
		texts[i] = strings.Repeat("x", i%7)
	}
	if l, e := Cells(FromCells(cells...)); e != api.OK || !slices.Equal(l, cells) {
		t.Errorf("%d cells are not there and back: %v", len(cells), e)
	}
	if l, e := Texts(FromTexts(texts...)); e != api.OK || !slices.Equal(l, texts) {
		t.Errorf("%d texts are not there and back: %v", len(texts), e)
	}
	long := strings.Repeat("ab", api.MaxBlob)
	if s, e := Text(FromTexts(long)); e != api.OK || s != long {
		t.Errorf("a text of %d bytes is not there and back: %v", len(long), e)
	}
	n := api.Node{Props: []api.Prop{{Name: "a", Value: make([]byte, api.MaxBlob)}}}
	if v, ok, e := One(n, "a"); v != 0 || ok || e != api.ErrForm {
		t.Errorf("One of %d bytes = %d, %v, %v", api.MaxBlob, v, ok, e)
	}
}

func TestWhatIsHandedInIsLeft(t *testing.T) {
	room := []byte("\x00\x00\x01\x00spare")
	cells := []uint32{1, 2, 7, 8}
	texts := []string{"a\x00b", "c", "spare"}
	props := []api.Prop{{Name: "a", Value: room[:4]}, {Name: "spare", Value: []byte{9}}}
	n := api.Node{Name: "n", Props: props[:1]}
	l, _ := Cells(room[:4])
	clear(l[:cap(l)])
	s, _ := Texts(room[:4])
	clear(s[:cap(s)])
	Text(room[:1])
	Wide(cells[:2])
	One(n, "a")
	for _, b := range [][]byte{FromCells(cells[:2]...), FromTexts(texts[:2]...)} {
		clear(b[:cap(b)])
	}
	if string(room) != "\x00\x00\x01\x00spare" || !slices.Equal(cells, []uint32{1, 2, 7, 8}) || !slices.Equal(texts, []string{"a\x00b", "c", "spare"}) {
		t.Errorf("what was handed in, or its spare room, is changed: %q, %v, %q", room, cells, texts)
	}
	if !tree.SameNode(n, api.Node{Name: "n", Props: []api.Prop{{Name: "a", Value: []byte{0, 0, 1, 0}}}}) || props[1].Name != "spare" || !bytes.Equal(props[1].Value, []byte{9}) {
		t.Errorf("the node that was handed in, or its spare room, is changed: %v", props)
	}
}

func TestAnswersAreNewMemory(t *testing.T) {
	b := []byte("abc\x00")
	cells, texts := []uint32{1, 2}, []string{"a", "b"}
	l, _ := Cells(b)
	s, _ := Text(b)
	several, _ := Texts(b)
	fromCells, fromTexts := FromCells(cells...), FromTexts(texts...)
	clear(b)
	clear(cells)
	clear(texts)
	if !slices.Equal(l, []uint32{0x61626300}) || s != "abc" || !slices.Equal(several, []string{"abc"}) {
		t.Errorf("an answer changes with the bytes: %v, %q, %q", l, s, several)
	}
	if !bytes.Equal(fromCells, []byte{0, 0, 0, 1, 0, 0, 0, 2}) || string(fromTexts) != "a\x00b\x00" {
		t.Errorf("an answer changes with what was handed in: %v, %q", fromCells, fromTexts)
	}
}

// answers are what all calls answer, of the same arguments each time; each answer, its spare room too, is overwritten behind that.
func answers() ([]uint32, string, []string, []byte, []byte) {
	l, _ := Cells([]byte{0, 0, 0, 1, 0, 0, 0, 2})
	s, _ := Text([]byte("ab\x00"))
	several, _ := Texts([]byte("a\x00b\x00"))
	cells, texts := FromCells(1, 2), FromTexts("a", "b")
	defer func() {
		clear(l[:cap(l)])
		clear(several[:cap(several)])
		clear(cells[:cap(cells)])
		clear(texts[:cap(texts)])
	}()
	return slices.Clone(l), s, slices.Clone(several), bytes.Clone(cells), bytes.Clone(texts)
}

func TestAnswersHangOnTheArgumentsAlone(t *testing.T) {
	for range 3 {
		l, s, several, cells, texts := answers()
		if !slices.Equal(l, []uint32{1, 2}) || s != "ab" || !slices.Equal(several, []string{"a", "b"}) || !bytes.Equal(cells, []byte{0, 0, 0, 1, 0, 0, 0, 2}) || string(texts) != "a\x00b\x00" {
			t.Fatalf("an answer changes with an earlier one: %v, %q, %q, %v, %q", l, s, several, cells, texts)
		}
	}
}
