package valid

import (
	"math"
	"slices"
	"strconv"
	"testing"

	"arboret/api"
	"arboret/prop"
)

// The tests of this file are P15.2's: what is asked behind all nodes.

// placed answers a node that takes the size bytes from at on, of each kind that may.
func placed(name string, at, size uint32) map[string]api.Node {
	return map[string]api.Node{
		"a device":         device(name, "ram", at, size),
		"a bus":            bridge(name, span(0, at, size)),
		"a bus of several": bridge(name, slices.Concat(span(0, 0, 0), span(0, at, size), span(5, 0xffffff00, 1))),
	}
}

func TestOverlap(t *testing.T) {
	for _, c := range []struct {
		what                  string
		at, size, from, bytes uint32
		meet                  bool
	}{
		{"one ahead of the other", 0, 16, 16, 16, false},
		{"one behind the other", 0x30, 16, 16, 32, false},
		{"far from each other", 0, 1, 1 << 20, 1 << 16, false},
		{"the same", 64, 16, 64, 16, true},
		{"by one byte", 0, 17, 16, 16, true},
		{"by one byte, the other way round", 31, 5, 16, 16, true},
		{"one in the other", 0, 1 << 16, 77, 1, true},
		{"at its beginning", 32, 1, 32, 64, true},
		{"at its end", 95, 1, 32, 64, true},
	} {
		for kind, a := range placed("a", c.at, c.size) {
			for other, b := range placed("b", c.from, c.bytes) {
				what := c.what + ": " + kind + " and " + other
				// Of those with a third one they are two that would meet, too.
				b.Props = slices.Clone(b.Props)
				if other == "a bus of several" {
					b.Props[1] = cells("ranges", slices.Concat(span(0, 1, 0), span(0, c.from, c.bytes), span(5, 0xfffffe00, 1))...)
				}
				show := func(what string, x api.Tree, path string) {
					t.Helper()
					if c.meet {
						refuse(t, what, x, api.ErrOverlap, path)
					} else {
						expectValid(t, what, x)
					}
				}
				show(what, rooted(a, b), "/")
				show(what+", with others between", rooted(device("c", "uart", 0x80000000, 16), a, node("d"), b, device("e", "uart", 0x70000000, 16)), "/")
				show(what+", on a bus", rooted(bridge("z", nil, a, b)), "/z")
				show(what+", on a bus on a bus", rooted(bridge("y", nil, bridge("z", nil, a, b))), "/y/z")
				expectValid(t, what+", but one is off", rooted(a, off(b)))
				expectValid(t, what+", but the other is off", rooted(off(a), b))
				expectValid(t, what+", but the bus is off", rooted(off(bridge("z", nil, a, b))))
				expectValid(t, what+", but the root is off", api.Tree{Root: off(rooted(a, b).Root)})
				expectValid(t, what+", but on two buses", rooted(bridge("y", span(0, 0, 1<<31), a), bridge("z", span(0, 1<<31, 1<<31), b)))
				expectValid(t, what+", but one is nothing", rooted(a, drop(b, "compatible")))
			}
		}
	}
}

func TestOverlapOfOneBus(t *testing.T) {
	refuse(t, "two ranges, above", rooted(bridge("b", slices.Concat(span(0, 0x100, 32), span(0x500, 0x11f, 32)))), api.ErrOverlap, "/")
	refuse(t, "the same range twice", rooted(bridge("b", slices.Concat(span(0, 0, 1), span(0, 0, 1)))), api.ErrOverlap, "/")
	expectValid(t, "two ranges, below alone", rooted(bridge("b", slices.Concat(span(0, 0x100, 32), span(0, 0x120, 32)), device("d", "uart", 0, 16))))
	expectValid(t, "ranges of no bytes", rooted(bridge("b", slices.Concat(span(0, 0x100, 32), span(0, 0x110, 0), span(0, 0x110, 0))), device("d", "uart", 0x120, 16)))
	refuse(t, "all of it, and a device", rooted(bridge("b", nil), device("d", "uart", 0, 16)), api.ErrOverlap, "/")
	refuse(t, "all of it, twice", rooted(bridge("b", nil), bridge("c", nil)), api.ErrOverlap, "/")
	refuse(t, "all of it, and a byte", rooted(bridge("b", span(0, 7, 1)), bridge("c", nil)), api.ErrOverlap, "/")
	expectValid(t, "all of it, and nothing", rooted(bridge("b", nil), bridge("c", span(0, 7, 0))))
}

func TestOverlapHangsOnWhereItStands(t *testing.T) {
	// A window is where its bus says, whatever is seen from the root.
	expectValid(t, "not from the root", rooted(bridge("b", span(0, 0x100, 0x100), device("d", "uart", 0x40, 16)), device("e", "uart", 0x40, 16)))
	refuse(t, "not where the root sees it", rooted(bridge("b", span(0, 0x100, 0x100), device("d", "uart", 0x40, 16), bridge("c", span(0, 0x48, 16)))), api.ErrOverlap, "/b")
	// Two on a bus that nobody sees from above meet, too.
	two := []api.Node{bridge("c", span(0, 7, 2)), bridge("d", span(0, 8, 2))}
	refuse(t, "on a bus below a node", rooted(with(node("n"), set(bridge("b", nil, two...), cells("ranges", 0, 0, 0, 1)))), api.ErrOverlap, "/n/b")
	refuse(t, "on a bus below a device", rooted(with(device("u", "uart", 0, 16), set(bridge("b", span(0, 0x10, 1), two...), cells("ranges", 0, 0, 0x10, 1)))), api.ErrOverlap, "/u/b")
	expectValid(t, "below a node", rooted(set(with(node("n"), two...), cells("#address-cells", 1))))
	expectValid(t, "below a device", rooted(set(with(device("u", "uart", 0, 16), two...), cells("#address-cells", 1))))
}

func TestOverlapAtTheEnd(t *testing.T) {
	const end = math.MaxUint64
	two := func(name string, at, size uint64) api.Node {
		return node(name, texts("compatible", "arbor,ram"), cells("reg", uint32(at>>32), uint32(at), uint32(size>>32), uint32(size)))
	}
	expectValid(t, "side by side", wideRoot(two("a", end, 1), two("b", end-1, 1)))
	refuse(t, "the last byte", wideRoot(two("a", end, 1), two("b", end-1, 2)), api.ErrOverlap, "/")
	refuse(t, "the last byte, and a bus", wideRoot(two("a", end, 1), wide("b", 0, 1, end)), api.ErrOverlap, "/")
	expectValid(t, "the last byte, and all else", wideRoot(two("a", end, 1), wide("b")))
	expectValid(t, "the first byte, and all else", wideRoot(two("a", 0, 1), wide("b", 0, 1, end)))
}

func TestOverlapOfWhichBus(t *testing.T) {
	a, b := device("a", "uart", 0, 16), device("b", "uart", 8, 16)
	both := []api.Node{a, b}
	inner := func(name string, at uint32) api.Node { return bridge(name, span(0, at, 0x100), both...) }
	refuse(t, "the first bus", rooted(inner("y", 0x100), inner("z", 0x200)), api.ErrOverlap, "/y")
	refuse(t, "the upper bus", rooted(bridge("y", nil, a, b, inner("z", 0x200))), api.ErrOverlap, "/y")
	refuse(t, "the root ahead of a bus", rooted(a, b, inner("z", 0x200)), api.ErrOverlap, "/")
	refuse(t, "the root ahead of a bus, by buses", rooted(inner("z", 0x200), inner("y", 0x200)), api.ErrOverlap, "/")
}

func TestTwice(t *testing.T) {
	d, e := func(more ...api.Prop) api.Node { return device("d", "uart", 0x10, 16, more...) }, func(more ...api.Prop) api.Node { return device("e", "rtc", 0x20, 16, more...) }
	refuse(t, "two devices", lined(d(to(1, 3)), e(to(1, 3))), api.ErrTwice, "/c")
	refuse(t, "one by its parent", lined(d(to(1, 3)), e(cells("interrupts", 3), cells("interrupt-parent", 1))), api.ErrTwice, "/c")
	expectValid(t, "two lines", lined(d(to(1, 3)), e(to(1, 4))))
	expectValid(t, "one is off", lined(d(to(1, 3)), off(e(to(1, 3)))))
	expectValid(t, "one is on what is off", lined(d(to(1, 3)), off(bridge("b", nil, e(to(1, 3))))))
	expectValid(t, "one is no device", lined(d(to(1, 3)), node("e", to(1, 3))))
	expectValid(t, "one is a bus", lined(d(to(1, 3)), set(bridge("e", span(0, 0, 1)), to(1, 3))))
	other := ctrl("f", 0x200, 2, to(1, 7))
	expectValid(t, "two controllers", lined(d(to(1, 3)), e(to(2, 3)), other))
	refuse(t, "a device and a controller", lined(d(to(1, 7)), e(), other), api.ErrTwice, "/c")
	refuse(t, "two controllers at a third one", lined(other, ctrl("g", 0x300, 3, to(1, 7))), api.ErrTwice, "/c")
	refuse(t, "at the second controller", lined(d(to(2, 7)), e(to(2, 7)), other), api.ErrTwice, "/f")
	refuse(t, "at a controller on a bus", lined(d(to(2, 0)), e(to(2, 0)), bridge("b", span(0, 0x1010, 0x300), other)), api.ErrTwice, "/b/f")
	refuse(t, "three", lined(d(to(1, 31)), e(to(1, 31)), other, device("g", "uart", 0x300, 16, to(1, 7))), api.ErrTwice, "/c")
	// Through, and not Root: behind the first controller they may come to one line.
	expectValid(t, "behind a controller", lined(d(to(2, 3)), e(to(2, 4)), other))
	refuse(t, "by a nexus", lined(d(to(9, 50)), e(to(1, 5)), nexus("n", 9, 50, 1, 5)), api.ErrTwice, "/c")
	refuse(t, "by two nexuses", lined(d(to(9, 50)), e(to(8, 51)), nexus("m", 8, 51, 9, 52), nexus("n", 9, 50, 1, 5, 52, 1, 5)), api.ErrTwice, "/c")
	expectValid(t, "one line of a nexus, that isn't the controller's", lined(d(to(9, 5)), e(to(1, 5)), nexus("n", 9, 5, 1, 6)))
	refuse(t, "two of a nexus, by its mask", lined(d(to(9, 0x10)), e(to(9, 0x20)), set(nexus("n", 9, 0, 1, 5), cells("interrupt-map-mask", 15))), api.ErrTwice, "/c")
	expectValid(t, "the line 0, of two", lined(d(to(1, 0)), e(to(2, 0)), other))
}

func TestTwiceOfWhichController(t *testing.T) {
	x := rooted(ctrl("a", 0x1000, 1), ctrl("b", 0x1010, 2, to(1, 30)))
	for i, l := range [][]uint32{{1, 3}, {2, 4}, {2, 4}, {1, 3}} {
		x.Root.Kids = append(x.Root.Kids, device("u"+strconv.Itoa(i), "uart", uint32(i)*16, 16, to(l...)))
	}
	refuse(t, "the first line that comes second", x, api.ErrTwice, "/b")
	x.Root.Kids[4], x.Root.Kids[5] = x.Root.Kids[5], x.Root.Kids[4]
	refuse(t, "the first line that comes second", x, api.ErrTwice, "/a")
}

func TestLineless(t *testing.T) {
	a, b := ctrl("a", 0x1000, 1), ctrl("b", 0x1010, 2)
	expectValid(t, "one", rooted(a))
	refuse(t, "two", rooted(a, b), api.ErrArg, "")
	refuse(t, "two, on buses", rooted(bridge("y", span(0x1000, 0, 16), a), bridge("z", span(0x1010, 16, 16), b)), api.ErrArg, "")
	refuse(t, "three", rooted(a, b, ctrl("c", 0x1020, 3), device("u", "uart", 0, 16, to(2, 3))), api.ErrArg, "")
	refuse(t, "no pairs", rooted(a, set(b, to())), api.ErrArg, "")
	refuse(t, "no cells", rooted(a, set(b, cells("interrupts"))), api.ErrArg, "")
	expectValid(t, "one of two has a line", rooted(a, set(b, to(1, 0))))
	expectValid(t, "the other one of two has a line", rooted(set(a, to(2, 0)), b))
	expectValid(t, "two of three have lines", rooted(set(a, to(2, 0)), b, ctrl("c", 0x1020, 3, to(1, 0))))
	refuse(t, "one of three has a line", rooted(set(a, to(2, 0)), b, ctrl("c", 0x1020, 3)), api.ErrArg, "")
	expectValid(t, "one of two is off", rooted(a, off(b)))
	expectValid(t, "one of two is a UART", rooted(a, set(b, texts("compatible", "arbor,uart"))))
	expectValid(t, "one of two is nothing", rooted(a, drop(b, "compatible")))
	expectValid(t, "none", rooted(device("u", "uart", 0, 16), device("v", "uart", 16, 16)))
}

// The root is asked nothing; what it is counts yet where all that are it are meant.
func TestTheRootIsADevice(t *testing.T) {
	root := func(kind string, more ...api.Prop) api.Tree {
		x := rooted(ctrl("c", 0x1000, 1), device("d", "uart", 0, 16, to(1, 3)))
		x.Root = set(x.Root, append(more, texts("compatible", "arbor,"+kind))...)
		return x
	}
	refuse(t, "a ctrl", root("ctrl"), api.ErrArg, "")
	refuse(t, "a ctrl whose lines are wrong", root("ctrl", to(1)), api.ErrArg, "")
	expectValid(t, "a ctrl with a line", root("ctrl", to(1, 4)))
	expectValid(t, "a ctrl that is off", root("ctrl", texts("status", "off")))
	expectValid(t, "a UART with a line", root("uart", to(1, 4)))
	refuse(t, "a UART with another one's line", root("uart", to(1, 3)), api.ErrTwice, "/c")
	expectValid(t, "a UART whose lines are wrong", root("uart", to(1)))
	expectValid(t, "a UART whose line comes nowhere", root("uart", cells("phandle", 2), to(2, 3)))
	expectValid(t, "a UART whose line is too great", root("uart", to(1, 32)))
	expectValid(t, "a UART whose lines come nowhere", root("uart", cells("phandle", 2), to(2, 3, 2, 4)))
	refuse(t, "a UART with one line twice", root("uart", to(1, 4, 1, 4)), api.ErrTwice, "/c")
	expectValid(t, "a UART with one line twice, off", root("uart", to(1, 4, 1, 4), texts("status", "off")))
	bus := root("", to(1, 3))
	bus.Root = set(bus.Root, texts("compatible", "simple-bus"))
	expectValid(t, "a bus with another one's line", bus)
}

func TestOrderOfTheWhole(t *testing.T) {
	meet := []api.Node{device("p", "ram", 0, 1), device("q", "ram", 0, 1)}
	lines := []api.Node{device("r", "uart", 0x10, 16, to(1, 3)), device("s", "uart", 0x20, 16, to(1, 3))}
	ctrls := []api.Node{ctrl("t", 0x1000, 1), ctrl("u", 0x1010, 2)}
	wrong := node("z", val("status", nil))
	refuse(t, "a node's error first", rooted(slices.Concat(meet, lines, ctrls, []api.Node{wrong})...), api.ErrForm, "/z")
	refuse(t, "then what meets", rooted(slices.Concat(ctrls, lines, meet)...), api.ErrOverlap, "/")
	refuse(t, "then what meets, on a bus", rooted(slices.Concat(ctrls, lines, []api.Node{bridge("b", span(0, 0x2000, 1), meet...)})...), api.ErrOverlap, "/b")
	refuse(t, "then the lines", rooted(slices.Concat(ctrls, lines)...), api.ErrTwice, "/t")
	refuse(t, "then the ctrls", rooted(slices.Concat(ctrls, lines[:1])...), api.ErrArg, "")
	expectValid(t, "then nothing", rooted(slices.Concat(ctrls[:1], lines[:1])...))
}

// A tree as great as it may be is asked within seconds, and so are ranges as many as a blob has room for.
func TestGreatTrees(t *testing.T) {
	const many = 2000
	x := rooted()
	for i := uint32(1); i <= 70; i++ {
		c := ctrl("c"+strconv.Itoa(int(i)), i*16, i)
		if i > 1 {
			c = set(c, to((i-2)/31+1, (i-2)%31))
		}
		x.Root.Kids = append(x.Root.Kids, c)
	}
	for i := range uint32(many) {
		// The upper ones have lines that the ctrls leave.
		d := device("d"+strconv.Itoa(int(i)), "uart", 0x10000+i*16, 16, to(i/29+1+3, i%29+1))
		if i/29+4 > 70 {
			d = drop(d, "interrupts-extended")
		}
		x.Root.Kids = append(x.Root.Kids, d)
	}
	expectValid(t, "many devices with lines", x)
	last := &x.Root.Kids[len(x.Root.Kids)-1]
	last.Props[1] = cells("reg", 0x10000, 16)
	refuse(t, "the last one meets the first one", x, api.ErrOverlap, "/")
	var l []uint32
	for i := range uint32(80000) {
		l = append(l, span(i*4, (80000-i)*4, 4)...)
	}
	b := bridge("b", l, device("d", "ram", 8, 4))
	expectValid(t, "many ranges", rooted(b))
	refuse(t, "many ranges, and a device", rooted(b, device("e", "ram", 160000, 1)), api.ErrOverlap, "/")
	b.Props[1] = val("ranges", append(prop.FromCells(l...), prop.FromCells(span(0, 4, 1)...)...))
	refuse(t, "many ranges, of which two meet", rooted(b), api.ErrOverlap, "/")
}
