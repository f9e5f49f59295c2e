package overlay

import (
	"strings"
	"testing"

	"arboret/api"
)

// The tests of this file are P11.1's, of Fix.

// fixed answers an overlay with those fixups, and those cells.
func fixed(r, a, b uint32, fixups ...api.Prop) api.Tree {
	return api.Tree{Boot: 3, Reserves: []api.Reserve{{At: 4, Size: 5}}, Root: node("", props(cells("r", 7, r)),
		node("k@1", props(cells("a", a), val("#b?", append([]byte{0xff}, cells("", b).Value...)))),
		node("k", nil, node("l.m", props(val("odd", []byte{0, 0, 0}), cells("none")))),
		node("__fixups__", fixups, node("below", props(texts("no-label", "no text")))),
	)}
}

func TestCellsThatFixupsSay(t *testing.T) {
	for _, c := range []struct {
		what    string
		r, a, b uint32
		l       []api.Prop
	}{
		{"none", 1, 2, 4, nil},
		{"a label without texts", 1, 2, 4, props(texts("u"))},
		{"the root's", 3, 2, 4, props(texts("u", "/:r:4"))},
		{"a node's", 1, 3, 4, props(texts("u", "/k@1:a:0"))},
		{"at no multiple of 4", 1, 2, 3, props(texts("u", "/k@1:#b?:1"))},
		{"several texts", 3, 3, 4, props(texts("u", "/:r:4", "/k@1:a:0"))},
		{"several labels", 3, 9, 5, props(texts("u", "/:r:4"), texts("g", "/k@1:a:0"), texts("s", "/k@1:#b?:1"))},
		{"one twice", 9, 2, 4, props(texts("u", "/:r:4"), texts("g", "/:r:4"))},
		{"one of three twice", 5, 9, 4, props(texts("u", "/:r:4", "/k@1:a:0"), texts("g", "/k@1:a:0"), texts("s", "/:r:4"))},
		{"two properties of one label", 3, 3, 4, props(texts("u", "/:r:4"), texts("u", "/k@1:a:0"))},
		{"a digit more", 3, 2, 4, props(texts("u", "/:r:04"))},
		{"nine digits", 3, 2, 4, props(texts("u", "/:r:000000004"))},
	} {
		of(Fix(machine(), fixed(1, 2, 4, c.l...))).expect(t, c.what, fixed(c.r, c.a, c.b, c.l...))
	}
	// Two places may lie over each other: one cell is set, then the other.
	l := props(texts("u", "/:r:2", "/:r:1"))
	want := fixed(1, 2, 4, l...)
	want.Root.Props[0].Value = []byte{0, 0, 0, 0, 3, 3, 0, 1}
	of(Fix(machine(), fixed(1, 2, 4, l...))).expect(t, "two places over each other", want)
}

func TestLabels(t *testing.T) {
	long := strings.Repeat("/soc", 400)
	base := changed(func(r *api.Node) {
		soc(r).Kids[1].Props = props(cells("phandle", 0xffffffff))
		gpio(r).Kids[0].Props = props(cells("phandle", 0))
		r.Props = append(r.Props, cells("phandle", 3))
		r.Kids = append(r.Kids, node("none", nil), node("two", props(cells("phandle", 1, 2))), node("odd", props(val("phandle", []byte{1}))), node("nil", props(cells("phandle"))))
		symbols := &r.Kids[2]
		symbols.Props = append(symbols.Props,
			// Whatever the one cell is, also one that is no handle, or one twice.
			texts("great", "/soc/uart@2"), texts("nought", "/soc/gpio@3/pin"), texts("root", "/"), texts("twice", "/soc/uart@1"),
			texts("alias", "ser"), texts("short", "/soc/gpio"), texts("short-pin", "/soc/gpio/pin"),
			texts("lost", "/lost"), texts("several", "/soc/uart"), texts("empty", ""), texts("slashes", "/soc/"), texts("no-alias", "soc"), texts("long", long),
			texts("texts", "/soc", "/soc"), texts("no-text"), val("open", []byte("/soc")), cells("cells", 5), val("inside", []byte("/soc\x00x")),
			texts("without", "/none"), texts("two", "/two"), texts("odd", "/odd"), texts("nil", "/nil"))
		symbols.Kids = []api.Node{node("below", nil)}
	})
	for label, want := range map[string]uint32{
		"u": 3, "g": 9, "s": 5, "great": 0xffffffff, "nought": 0, "root": 3, "twice": 3, "alias": 3, "short": 9, "short-pin": 0,
	} {
		of(Fix(base, fixed(1, 2, 4, texts(label, "/:r:4")))).expect(t, label, fixed(want, 2, 4, texts(label, "/:r:4")))
	}
	for _, label := range []string{
		"lost", "several", "empty", "slashes", "no-alias", "long", "texts", "no-text", "open", "cells", "inside", "without", "two", "odd", "nil",
		"", "none", "U", "below", "soc", "/soc", "ser", "u ", "u\x00",
	} {
		of(Fix(base, fixed(1, 2, 4, texts(label, "/:r:4")))).refuse(t, label, api.ErrFixup)
		of(Fix(base, fixed(1, 2, 4, texts(label)))).refuse(t, label+", without texts", api.ErrFixup)
		of(Fix(base, fixed(1, 2, 4, texts("u", "/:r:4"), texts(label, "/:r:4")))).refuse(t, label+", behind one that is there", api.ErrFixup)
	}
	for _, base := range []api.Tree{
		{}, rooted(node("__symbols__", nil)), rooted(node("__symbols__@1", props(texts("u", "/")))),
		rooted(node("k", nil, node("__symbols__", props(texts("u", "/k"))))),
	} {
		base.Root.Props = props(cells("phandle", 3))
		of(Fix(base, fixed(1, 2, 4, texts("u")))).refuse(t, "no symbols", api.ErrFixup)
		of(Fix(base, fixed(1, 2, 4))).expect(t, "no symbols, and no fixups", fixed(1, 2, 4))
		of(Fix(base, rooted(node("k", nil, node("__fixups__", props(texts("u"))))))).expect(t, "fixups not right below the root", rooted(node("k", nil, node("__fixups__", props(texts("u"))))))
	}
}

func TestTextsThatSayNothing(t *testing.T) {
	for _, text := range []string{
		"", ":", "::", ":::", "/", "/:", "/:r", "/:r:", "/::4", ":r:4", "/r:4", "/:r4", "/r4", "/:r:4:", "/:r:4:4", ":/:r:4", "/::r:4", "/:r::4",
		// Places that aren't 1 to 9 digits.
		"/:r:0000000004", "/:r:+4", "/:r:-4", "/:r:-0", "/:r: 4", "/:r:4 ", "/:r:4/", "/:r:x4", "/:r:0x4", "/:r:4a", "/:r:4.", "/:r:1_0", "/:r:0_4", "/:r:٤", "/:r:four", "/:r:4294967300",
		// Places that aren't there.
		"/:r:5", "/:r:7", "/:r:8", "/:r:9", "/:r:999999999", "/k@1:a:1", "/k@1:#b?:2", "/k/l.m:odd:0", "/k/l.m:none:0",
		// Properties that aren't there.
		"/:a:0", "/:R:4", "/: r:4", "/:r :4", "/:k@1:0", "/k:a:0", "/k@1:b?:1", "/:__fixups__:0",
		// Nodes that aren't there, or not by their full names.
		"k@1:a:0", "/k@2:a:0", "/k@:a:0", "/K@1:a:0", "//k@1:a:0", "/k@1/:a:0", "/k@1//:a:0", "//:r:4", "/k/l:none:0", "/l.m:none:0", "/k@1/k@1:a:0", "/soc:phandle:0", "ser:a:0", " /:r:4", "r:r:4",
	} {
		over := fixed(1, 2, 4, texts("u", text))
		of(Fix(machine(), over)).refuse(t, text, api.ErrFixup)
		of(Fix(machine(), fixed(1, 2, 4, texts("u", "/:r:4", text)))).refuse(t, text+", behind one that is there", api.ErrFixup)
		of(Fix(machine(), fixed(1, 2, 4, texts("u", text, "/:r:4")))).refuse(t, text+", ahead of one that is there", api.ErrFixup)
	}
	of(Fix(machine(), fixed(1, 2, 4, val("u", []byte("/:r:4"))))).refuse(t, "no text", api.ErrFixup)
	of(Fix(machine(), fixed(1, 2, 4, val("u", []byte("/:r:4\x00/:r:4"))))).refuse(t, "no texts", api.ErrFixup)
	// An alias of the overlay's, or the base's, is no full name.
	over := fixed(1, 2, 4, texts("u", "ser:a:0"))
	over.Root.Kids = append(over.Root.Kids, node("aliases", props(texts("ser", "/k@1"))))
	of(Fix(machine(), over)).refuse(t, "an alias", api.ErrFixup)
	// A name without a unit isn't one's with a unit, though just one could be meant.
	over = fixed(1, 2, 4, texts("u", "/k:a:0"))
	over.Root.Kids[1].Name = "other"
	of(Fix(machine(), over)).refuse(t, "a name without its unit", api.ErrFixup)
}

// Fixups may mean bytes of theirs; what is said is what they say as they are handed in.
func TestFixupsThatMeanFixups(t *testing.T) {
	over := fixed(1, 2, 4, texts("u", "/__fixups__:g:0", "/__fixups__:u:0"), texts("g", "/:r:4"))
	// What was "/__f" and "/:r:" is u's handle.
	want := fixed(9, 2, 4, val("u", []byte("\x00\x00\x00\x03ixups__:g:0\x00/__fixups__:u:0\x00")), val("g", []byte("\x00\x00\x00\x034\x00")))
	of(Fix(machine(), over)).expect(t, "fixups", want)
}

// Fix asks neither tree whether it is formed, or what its handles are.
func TestFixOfTreesThatAreNotFormed(t *testing.T) {
	over := func(a, b uint32) api.Tree {
		unnamed := node("", props(cells("x", b)), node("", props(cells("x", b))), node("k", props(cells("x", b))))
		k := node("a:b", props(cells("phandle", 0), cells("x", a), cells("x", 8)), unnamed)
		return api.Tree{Root: node("root", nil, k, node("a:b", props(cells("y", 8))), unnamed, node("__fixups__", props(texts("u", "/a:b:x:0"))))}
	}
	base := changed(func(r *api.Node) { soc(r).Props[0], r.Name = cells("phandle", 3), "root" })
	of(Fix(base, over(1, 2))).expect(t, "a name with a colon, and two of one name", over(3, 2))
	for _, text := range []string{"/:x:0", "//:x:0", "//k:x:0", "///:x:0", "/a:b/:x:0", "/a:b//k:x:0", "/a:b:y:0", "/a:x:0", "/b:x:0"} {
		bad := over(1, 2)
		bad.Root.Kids[3].Props = props(texts("u", text))
		of(Fix(base, bad)).refuse(t, text, api.ErrFixup)
	}
}
