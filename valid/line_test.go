package valid

import (
	"strconv"
	"testing"

	"arboret/api"
)

// The tests of this file are P15.2's: what is asked of a device's lines.

// nexus is a map of lines, with that handle.
func nexus(name string, handle uint32, entries ...uint32) api.Node {
	return node(name, cells("phandle", handle), cells("interrupt-map", entries...))
}

// lined is a tree of the ctrl "c", whose handle is 1, the device, named "d", and others.
func lined(d api.Node, others ...api.Node) api.Tree {
	return rooted(append([]api.Node{ctrl("c", 0x1000, 1), d}, others...)...)
}

func uart(more ...api.Prop) api.Node { return device("d", "uart", 0, 16, more...) }

func TestLines(t *testing.T) {
	parent := cells("interrupt-parent", 1)
	for _, c := range []struct {
		what string
		n    api.Node
		want api.Errno
	}{
		{"none", uart(), api.OK},
		{"no pair", uart(to()), api.OK},
		{"no cell, and no parent", uart(cells("interrupts")), api.OK},
		{"a pair", uart(to(1, 3)), api.OK},
		{"a cell", uart(cells("interrupts", 3), parent), api.OK},
		{"half a pair", uart(to(1)), api.ErrForm},
		{"a byte", uart(val("interrupts", []byte{1}), parent), api.ErrForm},
		{"nobody's", uart(to(9, 1)), api.ErrHandle},
		{"no parent", uart(cells("interrupts", 3)), api.ErrNone},
		{"a parent of no cell", uart(cells("interrupts", 3), cells("interrupt-parent")), api.ErrForm},
		{"a parent that nobody is", uart(cells("interrupts", 3), cells("interrupt-parent", 9)), api.ErrHandle},
		{"two pairs", uart(to(1, 3, 1, 4)), api.ErrForm},
		{"the same pair twice", uart(to(1, 3, 1, 3)), api.ErrForm},
		{"two cells", uart(cells("interrupts", 3, 4), parent), api.ErrForm},
		{"two pairs, and one is nobody's", uart(to(1, 3, 9, 4)), api.ErrHandle},
		{"two pairs, of which one comes nowhere", uart(to(2, 3, 1, 4)), api.ErrForm},
		{"one that comes nowhere", uart(to(2, 3)), api.ErrNone},
		{"its windows are asked first", uart(to(1), cells("reg", 0, 8)), api.ErrRange},
		{"its windows are asked first", uart(to(1), cells("reg", 0)), api.ErrCells},
		{"RAM with none", device("d", "ram", 0, 16, to()), api.OK},
		{"RAM with one", device("d", "ram", 0, 16, to(1, 3)), api.ErrForm},
		{"RAM with one that comes nowhere", device("d", "ram", 0, 16, to(2, 3)), api.ErrForm},
		{"RAM with half a one", device("d", "ram", 0, 16, to(9)), api.ErrForm},
		{"RAM with nobody's", device("d", "ram", 0, 16, to(9, 1)), api.ErrHandle},
	} {
		loose := node("e", cells("phandle", 2))
		if c.want == api.OK {
			expectValid(t, c.what, lined(c.n, loose))
		} else {
			refuse(t, c.what, lined(c.n, loose), c.want, "/d")
		}
		expectValid(t, c.what+", off", lined(off(c.n), loose))
		expectValid(t, c.what+", no device", lined(drop(c.n, "compatible"), loose))
		expectValid(t, c.what+", a bus", lined(set(c.n, texts("compatible", "simple-bus"), cells("ranges", 0, 0, 0, 1)), loose))
	}
	for _, kind := range []string{"uart", "clock", "rtc", "gpio"} {
		size := uint32(Size(Known("arbor," + kind)))
		expectValid(t, kind, lined(device("d", kind, 0, size, to(1, 3))))
		refuse(t, kind, lined(device("d", kind, 0, size, to(1, 3, 1, 4))), api.ErrForm, "/d")
	}
}

func TestCtrls(t *testing.T) {
	own := ctrl("d", 0, 2, to(1, 3))
	expectValid(t, "with a line", lined(own))
	refuse(t, "with two lines", lined(set(own, to(1, 3, 1, 4))), api.ErrForm, "/d")
	refuse(t, "with half a line", lined(set(own, to(1))), api.ErrForm, "/d")
	refuse(t, "with nobody's line", lined(drop(set(own, to(9, 1)), "interrupt-controller")), api.ErrHandle, "/d")
	refuse(t, "no controller", lined(drop(own, "interrupt-controller")), api.ErrForm, "/d")
	refuse(t, "no controller, without lines", rooted(drop(drop(own, "interrupt-controller"), "interrupts-extended")), api.ErrForm, "/d")
	refuse(t, "no count", lined(drop(own, "#interrupt-cells")), api.ErrForm, "/d")
	refuse(t, "another count", lined(set(own, cells("#interrupt-cells", 2))), api.ErrForm, "/d")
	refuse(t, "a map instead", lined(drop(set(own, cells("interrupt-map", 3, 1, 3)), "interrupt-controller")), api.ErrForm, "/d")
	refuse(t, "no controller, ahead of where its line comes", lined(drop(set(own, to(2, 3)), "#interrupt-cells")), api.ErrForm, "/d")
	refuse(t, "its size is asked first", lined(drop(set(own, cells("reg", 0, 32)), "#interrupt-cells")), api.ErrRange, "/d")
	expectValid(t, "no handle", lined(drop(own, "phandle")))
	expectValid(t, "a controller that is another device", lined(uart(val("interrupt-controller", nil), cells("#interrupt-cells", 1))))
}

func TestRootsErrors(t *testing.T) {
	refuse(t, "to what is neither", lined(uart(to(2, 3)), node("e", cells("phandle", 2))), api.ErrNone, "/d")
	refuse(t, "to itself", lined(uart(to(2, 3), cells("phandle", 2))), api.ErrNone, "/d")
	refuse(t, "to a nexus without that line", lined(uart(to(2, 3)), nexus("e", 2, 4, 1, 3)), api.ErrNone, "/d")
	refuse(t, "to a wrong nexus", lined(uart(to(2, 3)), nexus("e", 2, 4)), api.ErrForm, "/d")
	refuse(t, "by a nexus to nobody", lined(uart(to(2, 3)), nexus("e", 2, 3, 9, 1)), api.ErrHandle, "/d")
	refuse(t, "round and round", lined(uart(to(2, 3)), nexus("e", 2, 3, 2, 3)), api.ErrLoop, "/d")
	expectValid(t, "by a nexus", lined(uart(to(2, 3)), nexus("e", 2, 3, 1, 31)))
	expectValid(t, "by a nexus on a bus that is off", lined(uart(to(2, 3)), off(bridge("b", nil, nexus("e", 2, 3, 1, 31)))))
	// What is on the way of a controller's line is wrong for whoever comes there, and is told of who is asked first.
	wrong := ctrl("e", 0x100, 2, to(3, 0))
	refuse(t, "behind a controller", lined(uart(to(2, 3)), wrong, node("f", cells("phandle", 3))), api.ErrNone, "/d")
	refuse(t, "a ctrl's own line", rooted(wrong, node("f", cells("phandle", 3)), uart(to(2, 3))), api.ErrNone, "/e")
	refuse(t, "a controller's wrong lines", lined(uart(to(2, 3)), set(wrong, to(1))), api.ErrForm, "/d")
	refuse(t, "a controller at itself", rooted(ctrl("e", 0x100, 2, to(2, 0))), api.ErrLoop, "/e")
	refuse(t, "two at each other", rooted(ctrl("e", 0x100, 2, to(3, 0)), ctrl("f", 0x200, 3, to(2, 0))), api.ErrLoop, "/e")
}

func TestLinesBelowMaxLines(t *testing.T) {
	for _, c := range []struct {
		line  uint32
		wrong bool
	}{{0, false}, {31, false}, {api.MaxLines, true}, {33, true}, {1 << 31, true}, {1<<32 - 1, true}} {
		show := func(what string, x api.Tree, path string) {
			t.Helper()
			if c.wrong {
				refuse(t, what, x, api.ErrRange, path)
			} else {
				expectValid(t, what, x)
			}
		}
		show("at the ctrl", lined(uart(to(1, c.line))), "/d")
		show("behind another one", lined(uart(to(2, 4)), ctrl("e", 0x100, 2, to(1, c.line))), "/d")
		show("at the first one", lined(uart(to(2, c.line)), ctrl("e", 0x100, 2, to(1, 4))), "/d")
		show("a ctrl's", lined(ctrl("d", 0, 2, to(1, c.line))), "/d")
		show("behind a nexus", lined(uart(to(2, 77)), nexus("e", 2, 77, 1, c.line)), "/d")
		expectValid(t, "at a nexus", lined(uart(to(2, c.line)), nexus("e", 2, c.line, 1, 5)))
	}
}

func TestControllersAreEnabledCtrls(t *testing.T) {
	plain := node("e", val("interrupt-controller", nil), cells("#interrupt-cells", 1), cells("phandle", 2))
	own := set(ctrl("e", 0x100, 2), to(1, 4))
	for _, c := range []struct {
		what string
		n    api.Node
	}{
		{"nothing", plain},
		{"a UART", set(plain, device("e", "uart", 0x100, 16).Props...)},
		{"a bus", set(plain, bridge("e", span(0, 0x100, 1)).Props...)},
		{"a ctrl that is off", off(own)},
		{"a ctrl below what is off", with(off(node("f")), own)},
		{"a ctrl whose status is no text", set(own, val("status", nil))},
		{"a ctrl whose compatible is no texts", set(own, val("compatible", []byte("arbor,ctrl")))},
		{"a UART first", set(own, texts("compatible", "arbor,uart", "arbor,ctrl"))},
	} {
		refuse(t, c.what, lined(uart(to(2, 3)), c.n), api.ErrKnown, "/d")
		refuse(t, c.what+", by a nexus", lined(uart(to(3, 3)), nexus("g", 3, 3, 2, 5), c.n), api.ErrKnown, "/d")
		refuse(t, c.what+", behind a ctrl", lined(uart(to(3, 3)), ctrl("g", 0x200, 3, to(2, 5)), c.n), api.ErrKnown, "/d")
		refuse(t, c.what+", but the lines are asked first", lined(uart(to(2, 32)), c.n), api.ErrRange, "/d")
	}
	refuse(t, "a line behind what is no ctrl", lined(uart(to(2, 3)), set(plain, to(1, 32))), api.ErrRange, "/d")
	refuse(t, "what is no ctrl, behind a ctrl", lined(ctrl("d", 0, 3, to(2, 3)), plain), api.ErrKnown, "/d")
	expectValid(t, "a ctrl first", lined(uart(to(2, 3)), set(own, texts("compatible", "x", "arbor,ctrl", "arbor,uart"))))
	expectValid(t, "a ctrl on a bus", lined(uart(to(2, 3)), bridge("b", span(0, 0x80, 0x200), own)))
	expectValid(t, "nobody comes there", lined(uart(to(1, 3)), off(own), with(node("f"), off(set(plain, cells("phandle", 3))))))
}

// TestTheRootIsACtrl is of a root that is what nobody asks of it to be.
func TestTheRootIsACtrl(t *testing.T) {
	x := rooted(uart(to(1, 3)))
	x.Root = set(x.Root, val("interrupt-controller", nil), cells("#interrupt-cells", 1), cells("phandle", 1))
	refuse(t, "a controller alone", x, api.ErrKnown, "/d")
	x.Root = set(x.Root, texts("compatible", "arbor,ctrl"))
	expectValid(t, "a ctrl", x)
}

// Ways are as long as layer 14 lets them be.
func TestLongWays(t *testing.T) {
	chain := func(many int) api.Tree {
		x := rooted(ctrl("n0", 0, 1))
		for i := 1; i < many; i++ {
			x.Root.Kids = append(x.Root.Kids, ctrl("n"+strconv.Itoa(i), uint32(i)*16, uint32(i)+1, to(uint32(i), 7)))
		}
		return x
	}
	expectValid(t, "MaxDepth ctrls", chain(api.MaxDepth))
	// The last one's own line comes through one less.
	expectValid(t, "one more", chain(api.MaxDepth+1))
	refuse(t, "two more", chain(api.MaxDepth+2), api.ErrLoop, "/n17")
	x := chain(api.MaxDepth + 1)
	x.Root.Kids = append(x.Root.Kids, device("u", "uart", 0x1000, 16, to(api.MaxDepth, 1)))
	expectValid(t, "a device at the last but one", x)
	x.Root.Kids[api.MaxDepth+1].Props[2] = to(api.MaxDepth+1, 1)
	refuse(t, "a device at the last", x, api.ErrLoop, "/u")
}
