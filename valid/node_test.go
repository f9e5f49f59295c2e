package valid

import (
	"errors"
	"math"
	"slices"
	"strings"
	"testing"

	"arboret/api"
	"arboret/prop"
)

// The tests of this file are P15.2's: what is asked of a node, but its lines.

func expectValid(t *testing.T, what string, x api.Tree) {
	t.Helper()
	if err := Check(x); err != nil {
		t.Errorf("%s: Check = %v", what, err)
	}
}

// refuse is of an error of the node at the path, "" of the whole tree.
func refuse(t *testing.T, what string, x api.Tree, want api.Errno, path string) {
	t.Helper()
	var paths []string
	if path != "" {
		paths = []string{path}
	}
	err := Check(x)
	if e, l := Cause(err); err == nil || e != want || !slices.Equal(l, paths) {
		t.Errorf("%s: Check = %v: %v, %q, not %v, %q", what, err, e, l, want, paths)
		return
	}
	for e := api.OK; e <= api.ErrFull; e++ {
		if errors.Is(err, e) != (e == want) {
			t.Errorf("%s: Check = %v, which is, or isn't, %v", what, err, e)
		}
	}
}

// machine is a valid tree: a ctrl, a bus with another one, two devices and a bus with a third one, a clock, an RTC, and RAM.
func machine() api.Tree {
	inner := bridge("inner@200", span(0, 0x200, 0x100), device("clock@30", "clock", 0x30, 16, cells("interrupt-parent", 2), cells("interrupts", 0)))
	return rooted(ctrl("ctrl@f000", 0xf000, 1),
		bridge("soc@1000", []uint32{0, 0x1000, 0x400, 0x8000, 0x2000, 0x100}, ctrl("ctrl@0", 0, 2, to(1, 5)), device("uart@40", "uart", 0x40, 16, to(2, 3)),
			device("gpio@8000", "gpio", 0x8000, 32, cells("interrupt-parent", 2), cells("interrupts", 4)), inner),
		device("clock@40", "clock", 0x40, 16, to(1, 6)), device("rtc@80", "rtc", 0x80, 16, to(1, 31)), device("ram@4000", "ram", 0x4000, 64))
}

func TestValidTrees(t *testing.T) {
	expectValid(t, "a machine", machine())
	expectValid(t, "no tree", api.Tree{})
	expectValid(t, "a root that is off", api.Tree{Boot: 7, Root: off(machine().Root)})
	expectValid(t, "nodes without properties", rooted(with(node("a"), node("b")), node("c")))
	expectValid(t, "reserves", api.Tree{Reserves: []api.Reserve{{At: 0, Size: 1 << 63}, {At: math.MaxUint64, Size: 2}}})
}

func TestTheTreeIsAskedFirst(t *testing.T) {
	wrong := node("a", val("status", nil))
	refuse(t, "layer 3's, of the root", api.Tree{Root: node("x")}, api.ErrName, "")
	refuse(t, "layer 3's, of a node", rooted(wrong, with(node("b"), node("@"))), api.ErrName, "")
	refuse(t, "layer 3's, of two of one name", rooted(wrong, wrong), api.ErrTwice, "")
	refuse(t, "layer 3's, of a deep one", chain(api.MaxDepth, wrong), api.ErrDeep, "")
	refuse(t, "layer 3's, of the reserves", api.Tree{Root: rooted(wrong).Root, Reserves: make([]api.Reserve, 1)}, api.ErrMany, "")
	refuse(t, "layer 8's, no cell", rooted(wrong, node("b", val("phandle", nil))), api.ErrForm, "")
	refuse(t, "layer 8's, no handle", rooted(wrong, node("b", cells("phandle", 0))), api.ErrHandle, "")
	refuse(t, "layer 8's, twice, in what is off", rooted(wrong, off(with(node("b", cells("phandle", 3)), node("c", cells("phandle", 3))))), api.ErrTwice, "")
	refuse(t, "layer 8's, of the root", api.Tree{Root: node("", cells("phandle", 1<<32-1))}, api.ErrHandle, "")
	refuse(t, "layer 3's ahead of layer 8's", rooted(node("b", val("phandle", nil)), node("@")), api.ErrName, "")
	refuse(t, "none of them", rooted(wrong), api.ErrForm, "/a")
}

func TestStatus(t *testing.T) {
	strange := node("b", texts("compatible", "none"))
	for _, value := range [][]byte{nil, {}, []byte("okay"), []byte("okay\x00\x00"), []byte("ok\x00okay\x00"), []byte("\x00off")} {
		bad := node("a", val("status", value))
		refuse(t, "no text", rooted(bad), api.ErrForm, "/a")
		refuse(t, "no text, and compatible is none", rooted(set(bad, val("compatible", []byte("x")))), api.ErrForm, "/a")
		refuse(t, "no text, further down", rooted(node("c"), with(node("b"), bad)), api.ErrForm, "/b/a")
		refuse(t, "no text, below what is off", rooted(off(with(strange, bad))), api.ErrForm, "/b/a")
		refuse(t, "no text, below a root that is off", api.Tree{Root: off(with(node(""), bad))}, api.ErrForm, "/a")
		refuse(t, "no text, behind what is wrong", rooted(strange, bad), api.ErrKnown, "/b")
		refuse(t, "no text, ahead of what is wrong", rooted(bad, strange), api.ErrForm, "/a")
		// The root isn't asked; but what isn't a text isn't okay or ok.
		expectValid(t, "no text, of the root", api.Tree{Root: with(node("", val("status", value)), strange)})
	}
	for _, text := range []string{"disabled", "fail", "", "OK", "okay "} {
		n := set(strange, texts("status", text))
		expectValid(t, "what is off isn't asked", rooted(n))
		expectValid(t, "what is below isn't asked", rooted(with(n, strange, with(node("c"), strange))))
		refuse(t, "the next one is asked", rooted(n, node("c", texts("compatible", "none"))), api.ErrKnown, "/c")
	}
	for _, text := range []string{"ok", "okay"} {
		refuse(t, "what is on", rooted(set(strange, texts("status", text))), api.ErrKnown, "/b")
		refuse(t, "what is below what is on", rooted(node("a"), with(node("c", texts("status", text)), strange)), api.ErrKnown, "/c/b")
	}
}

func TestCompatible(t *testing.T) {
	for _, value := range [][]byte{[]byte("x"), []byte("arbor,uart"), []byte("simple-bus\x00x")} {
		n := node("a", val("compatible", value))
		refuse(t, "no texts", rooted(n), api.ErrForm, "/a")
		refuse(t, "no texts, below", rooted(with(node("b"), n)), api.ErrForm, "/b/a")
		expectValid(t, "no texts, off", rooted(off(n)))
		expectValid(t, "no texts, of the root", api.Tree{Root: node("", n.Props...)})
	}
	for _, l := range [][]string{nil, {""}, {"none"}, {"x,uart", "uart", "arbor,bus"}} {
		n := node("a", texts("compatible", l...), cells("reg", 1))
		refuse(t, "none is known", rooted(n), api.ErrKnown, "/a")
		refuse(t, "none is known, below a device", rooted(with(device("u", "uart", 0, 16), n)), api.ErrKnown, "/u/a")
		expectValid(t, "none is known, off", rooted(off(n)))
		expectValid(t, "none is known, of the root", api.Tree{Root: node("", n.Props...)})
	}
	// What compatible doesn't say isn't asked.
	loose := node("a", cells("reg", 1), val("ranges", []byte("x")), cells("interrupts-extended", 1), cells("#address-cells", 9))
	expectValid(t, "no compatible", rooted(loose, with(node("b"), loose)))
	expectValid(t, "the root is asked nothing", api.Tree{Root: node("", set(loose, texts("compatible", "arbor,gpio")).Props...)})
	for _, kind := range []string{"ram", "uart", "clock", "gpio", "rtc", "ctrl"} {
		expectValid(t, "the root is asked nothing", api.Tree{Root: node("", texts("compatible", "arbor,"+kind))})
	}
	expectValid(t, "the root is asked nothing", api.Tree{Root: node("", texts("compatible", "simple-bus"))})
}

// wide answers a bus of two cells an address and a size, with a ranges of such numbers.
func wide(name string, numbers ...uint64) api.Node {
	var l []uint32
	for _, v := range numbers {
		l = append(l, uint32(v>>32), uint32(v))
	}
	return set(bridge(name, l), cells("#address-cells", 2), cells("#size-cells", 2))
}

// wideRoot is a tree of two cells an address, and two a size.
func wideRoot(kids ...api.Node) api.Tree {
	return api.Tree{Root: with(node("", cells("#size-cells", 2)), kids...)}
}

func TestBuses(t *testing.T) {
	const end = math.MaxUint64
	for _, c := range []struct {
		what string
		n    api.Node
		want api.Errno
	}{
		{"no ranges", drop(bridge("b", nil), "ranges"), api.ErrRange},
		{"ranges of no bytes", bridge("b", nil), api.OK},
		{"ranges of three cells", bridge("b", span(1, 2, 3)), api.ErrCells},
		{"its own counts", wide("b", 0, 0), api.ErrCells},
		{"a count that is none", set(wide("b", 0, 0, 1), cells("#size-cells", 3)), api.ErrCells},
		{"without ranges its counts aren't asked", drop(set(wide("b"), cells("#size-cells", 3)), "ranges"), api.ErrRange},
		{"a right one", wide("b", 5, 7, 9), api.OK},
		{"two right ones", wide("b", 5, 7, 9, 1<<40, 1<<50, 1<<60), api.OK},
		{"up to the end below", wide("b", end, 0, 1), api.OK},
		{"up to the end above", wide("b", 0, end, 1), api.OK},
		{"up to both ends", wide("b", end-8, end-8, 9), api.OK},
		{"all but one", wide("b", 0, 0, end), api.OK},
		{"all but the first", wide("b", 1, 1, end), api.OK},
		{"beyond the end below", wide("b", end, 0, 2), api.ErrRange},
		{"beyond the end above", wide("b", 0, end, 2), api.ErrRange},
		{"beyond below, by one", wide("b", 2, 0, end), api.ErrRange},
		{"beyond above, by one", wide("b", 0, 2, end), api.ErrRange},
		{"far beyond both", wide("b", end, end, end), api.ErrRange},
		{"the second one beyond", wide("b", 0, 0, 1, 2, end, 2), api.ErrRange},
		{"of no bytes, at the ends", wide("b", end, end, 0), api.OK},
		{"of no bytes, ahead of one beyond", wide("b", end, end, 0, 1, end, 2), api.ErrRange},
	} {
		n := c.n
		for _, x := range []struct {
			what, path string
			t          api.Tree
		}{
			{"", "/b", wideRoot(n)},
			{"below a bus", "/a/b", wideRoot(with(wide("a", 0, 0, 1), n))},
			{"below what isn't one", "/a/b", wideRoot(with(set(node("a"), cells("#size-cells", 2)), n))},
			{"below a device", "/a/b", wideRoot(with(node("a", texts("compatible", "arbor,uart"), cells("reg", 0, 0, 0, 16)), n))},
		} {
			if c.want == api.OK {
				expectValid(t, c.what+" "+x.what, x.t)
			} else {
				refuse(t, c.what+" "+x.what, x.t, c.want, x.path)
			}
		}
		expectValid(t, c.what+", off", wideRoot(off(n)))
		expectValid(t, c.what+", and no bus", wideRoot(drop(n, "compatible")))
	}
	refuse(t, "the parent's counts", api.Tree{Root: with(node("", cells("#address-cells", 3)), bridge("b", nil))}, api.ErrCells, "/b")
	refuse(t, "no cells above", api.Tree{Root: with(node("", cells("#address-cells", 0)), bridge("b", nil))}, api.ErrCells, "/b")
}

func TestDevicesStandOnBuses(t *testing.T) {
	u := device("u", "uart", 0, 16)
	expectValid(t, "below the root", rooted(u))
	expectValid(t, "below a bus", rooted(bridge("b", nil, u)))
	expectValid(t, "below buses", rooted(bridge("b", nil, bridge("c", nil, u))))
	loose := set(node("n"), cells("#address-cells", 1), val("ranges", nil))
	refuse(t, "below a node", rooted(with(loose, u)), api.ErrKnown, "/n/u")
	refuse(t, "below a node on a bus", rooted(bridge("b", nil, with(loose, u))), api.ErrKnown, "/b/n/u")
	refuse(t, "on a bus below a node", rooted(with(loose, bridge("b", nil, u))), api.ErrKnown, "/n/b/u")
	refuse(t, "below a device", rooted(with(device("d", "ram", 0x40, 64, val("ranges", nil), cells("#address-cells", 1)), u)), api.ErrKnown, "/d/u")
	refuse(t, "on a bus below a device", rooted(with(device("d", "ram", 0x40, 64, val("ranges", nil), cells("#address-cells", 1)), bridge("b", nil, u))), api.ErrKnown, "/d/b/u")
	refuse(t, "ahead of its windows", rooted(with(loose, drop(u, "reg"))), api.ErrKnown, "/n/u")
	expectValid(t, "off", rooted(with(loose, off(u))))
	expectValid(t, "below what is off", rooted(with(off(loose), u)))
	expectValid(t, "a bus that is the second thing", rooted(with(set(bridge("b", nil), texts("compatible", "x", "simple-bus", "arbor,ram")), u)))
	refuse(t, "a bus that is the second thing", rooted(with(set(bridge("b", nil), texts("compatible", "arbor,ram", "simple-bus"), cells("reg", 0x100, 1)), u)), api.ErrKnown, "/b/u")
}

func TestWindows(t *testing.T) {
	for kind, own := range map[string]uint32{"uart": 16, "clock": 16, "gpio": 32, "rtc": 16, "ctrl": 16, "ram": 0} {
		for _, size := range []uint32{0, 1, 2, 4, 8, 15, 16, 17, 31, 32, 33, 64, 1 << 12, 1<<16 - 1, 1 << 16, 1<<16 + 1, 1 << 31, 1<<32 - 1} {
			n := device("d", kind, 0x100, size)
			if kind == "ctrl" {
				n = ctrl("d", 0x100, 9)
				n.Props[1] = cells("reg", 0x100, size)
			}
			for path, x := range map[string]api.Tree{"/d": rooted(n), "/b/d": rooted(bridge("b", span(0, 0, 1<<32-1), n))} {
				if size == own && size > 0 || kind == "ram" && 1 <= size && size <= api.MaxRAM {
					expectValid(t, kind, x)
				} else {
					refuse(t, kind, x, api.ErrRange, path)
				}
			}
		}
	}
	const end = math.MaxUint64
	two := func(at, size uint64) api.Prop {
		return cells("reg", uint32(at>>32), uint32(at), uint32(size>>32), uint32(size))
	}
	for _, c := range []struct {
		what string
		reg  api.Prop
		want api.Errno
	}{
		{"none", texts("x"), api.ErrRange},
		{"no bytes", cells("reg"), api.ErrRange},
		{"up to the end", two(end-15, 16), api.OK},
		{"beyond the end", two(end-14, 16), api.ErrRange},
		{"far beyond", two(end, 16), api.ErrRange},
		{"too great", two(0, 1<<32+16), api.ErrRange},
		{"two", val("reg", slices.Concat(two(0, 16).Value, two(16, 16).Value)), api.ErrRange},
		{"the same twice", val("reg", slices.Concat(two(0, 16).Value, two(0, 16).Value)), api.ErrRange},
		{"a cell too few", cells("reg", 0, 0, 16), api.ErrCells},
		{"a byte too many", val("reg", append(two(0, 16).Value, 0)), api.ErrCells},
	} {
		n := node("d", texts("compatible", "arbor,rtc"), c.reg)
		if c.want == api.OK {
			expectValid(t, c.what, wideRoot(n))
		} else {
			refuse(t, c.what, wideRoot(n), c.want, "/d")
			refuse(t, c.what+", on a bus", wideRoot(with(wide("b"), n)), c.want, "/b/d")
		}
		expectValid(t, c.what+", off", wideRoot(off(n)))
	}
	refuse(t, "the parent's counts", api.Tree{Root: with(node("", cells("#size-cells", 7)), device("d", "rtc", 0, 16))}, api.ErrCells, "/d")
}

func TestWindowsAreSeenFromTheRoot(t *testing.T) {
	under := func(ranges []uint32, at uint32) api.Tree {
		return rooted(bridge("b", ranges, device("d", "uart", at, 16)))
	}
	expectValid(t, "at a range's beginning", under(span(0x100, 0x500, 0x40), 0x100))
	expectValid(t, "at its end", under(span(0x100, 0x500, 0x40), 0x130))
	expectValid(t, "in the second one", under(slices.Concat(span(0, 0x500, 0x40), span(0x100, 0x600, 16)), 0x100))
	refuse(t, "ahead of it", under(span(0x100, 0x500, 0x40), 0xff), api.ErrRange, "/b/d")
	refuse(t, "behind it", under(span(0x100, 0x500, 0x40), 0x131), api.ErrRange, "/b/d")
	refuse(t, "in two ranges, one half each", under(slices.Concat(span(0, 0x500, 8), span(8, 0x508, 8)), 0), api.ErrRange, "/b/d")
	refuse(t, "in a range of no bytes", under(span(0, 0x500, 0), 0), api.ErrRange, "/b/d")
	outer := func(size uint32) api.Tree {
		return rooted(bridge("a", span(0x500, 0, size), bridge("b", span(0, 0x500, 0x100), device("d", "uart", 0xf0, 16))))
	}
	expectValid(t, "through two", outer(0x100))
	refuse(t, "through one alone", outer(0xff), api.ErrRange, "/a/b/d")
}

// Whichever node is asked first tells its error, and of one node's errors the first one is told.
func TestOrderOfNodes(t *testing.T) {
	a, b, c, d := node("a", val("status", nil)), node("b", texts("compatible", "x")), drop(bridge("c", nil), "ranges"), device("d", "uart", 0, 4)
	type one struct {
		n    api.Node
		want api.Errno
	}
	all := []one{{a, api.ErrForm}, {b, api.ErrKnown}, {c, api.ErrRange}, {d, api.ErrRange}}
	for i, first := range all {
		for j, second := range all {
			if i == j {
				continue
			}
			refuse(t, "side by side", rooted(first.n, second.n), first.want, "/"+first.n.Name)
			refuse(t, "one below the other", rooted(bridge("z", nil), with(first.n, second.n)), first.want, "/"+first.n.Name)
			refuse(t, "below one ahead", rooted(bridge("z", nil, first.n), second.n), first.want, "/z/"+first.n.Name)
		}
	}
}

func TestDeepest(t *testing.T) {
	n := device("n", "uart", 0, 16)
	for range api.MaxDepth - 2 {
		n = bridge("n", nil, n)
	}
	expectValid(t, "the deepest device", rooted(n))
	refuse(t, "one deeper", rooted(bridge("n", nil, n)), api.ErrDeep, "")
	last := &n
	for len(last.Kids) > 0 {
		last = &last.Kids[0]
	}
	last.Props = device("", "gpio", 0, 16).Props
	refuse(t, "what is wrong with the deepest one", rooted(n), api.ErrRange, strings.Repeat("/n", api.MaxDepth-1))
	last.Props = []api.Prop{val("compatible", prop.FromTexts("arbor,ram")), cells("reg", 1, 1<<16)}
	expectValid(t, "another one", rooted(n))
}
