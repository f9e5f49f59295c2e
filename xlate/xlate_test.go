package xlate

import (
	"slices"
	"strconv"
	"testing"

	"arboret/api"
	"arboret/prop"
	"arboret/region"
)

// The tests of this file are P13.2's.

func rooted(root api.Node, kids ...api.Node) api.Tree {
	return api.Tree{Root: with(root, kids...)}
}

func with(n api.Node, kids ...api.Node) api.Node {
	n.Kids = kids
	return n
}

// reg answers a node with these cells of reg.
func reg(cells ...uint32) api.Node {
	return having(val("status", []byte{1}), val("reg", prop.FromCells(cells...)))
}

// one answers a root whose only bus has these ranges, of one cell each.
func one(cells ...uint32) api.Tree { return rooted(counting(1, 1), ranging(1, 1, cells...)) }

// two answers the same, of two cells each.
func two(cells ...uint32) api.Tree { return rooted(counting(2, 2), ranging(2, 2, cells...)) }

func at(place ...int) []int { return place }

func expectUp(t *testing.T, what string, x api.Tree, place []int, at, size, want uint64) {
	t.Helper()
	if v, e := Up(x, place, at, size); v != want || e != api.OK {
		t.Errorf("%s: Up(%v, %#x, %#x) = %#x, %v, not %#x", what, place, at, size, v, e, want)
	}
}

func refuseUp(t *testing.T, what string, x api.Tree, place []int, at, size uint64, want api.Errno) {
	t.Helper()
	if v, e := Up(x, place, at, size); v != 0 || e != want {
		t.Errorf("%s: Up(%v, %#x, %#x) = %#x, %v, not %v", what, place, at, size, v, e, want)
	}
}

func expectWindows(t *testing.T, what string, x api.Tree, place []int, want ...region.Window) {
	t.Helper()
	if l, e := Windows(x, place); !slices.Equal(l, want) || e != api.OK {
		t.Errorf("%s: Windows(%v) = %v, %v, not %v", what, place, l, e, want)
	}
}

func refuseWindows(t *testing.T, what string, x api.Tree, place []int, want api.Errno) {
	t.Helper()
	if l, e := Windows(x, place); len(l) != 0 || e != want {
		t.Errorf("%s: Windows(%v) = %v, %v, not %v", what, place, l, e, want)
	}
}

func TestUpOfTheRoot(t *testing.T) {
	// What the root's own properties say of what is above it is nobody's.
	for _, root := range []api.Node{{}, ranging(1, 1, 0, 16, 16), ranging(1, 1, 1), counting(9, 0)} {
		for _, v := range []uint64{0, 1, 16, 1 << 63, last} {
			for _, size := range []uint64{0, 1, 16, 1 << 63, last} {
				expectUp(t, "the root", rooted(root), nil, v, size, v)
				expectUp(t, "the root", rooted(root), []int{}, v, size, v)
			}
		}
	}
}

func TestUp(t *testing.T) {
	x := one(0x20, 0x1000, 0x10, 0x40, 0, 0x20)
	for _, c := range []struct{ at, size, want uint64 }{
		{0x20, 0x10, 0x1000}, {0x20, 1, 0x1000}, {0x21, 0xf, 0x1001}, {0x2f, 1, 0x100f},
		{0x40, 0x20, 0}, {0x40, 1, 0}, {0x5f, 1, 0x1f}, {0x48, 0x18, 8},
	} {
		expectUp(t, "two ranges", x, at(0), c.at, c.size, c.want)
	}
	for _, c := range []struct{ at, size uint64 }{
		{0x20, 0x11}, {0x21, 0x10}, {0x2f, 2}, {0x30, 1}, {0x1f, 1}, {0x1f, 2}, {0x1f, 0x12}, {0, 1}, {0, 0x100}, {0x3f, 1}, {0x3f, 2}, {0x60, 1}, {0x5f, 2},
		// No bytes are in no range.
		{0x20, 0}, {0x28, 0}, {0x30, 0}, {0, 0},
		// Nor is what goes beyond the last address.
		{0x20, last}, {0x28, last}, {last, 1}, {last, 2}, {last, 0x22}, {last, last},
	} {
		refuseUp(t, "two ranges", x, at(0), c.at, c.size, api.ErrRange)
	}
}

func TestUpByTheFirstRange(t *testing.T) {
	// The first one has the least of them, and each of the others more.
	x := one(0x18, 0x100, 8, 0x10, 0x200, 0x10, 0, 0x300, 0x40, 0x10, 0x400, 0x10)
	expectUp(t, "the first", x, at(0), 0x18, 8, 0x100)
	expectUp(t, "the first", x, at(0), 0x1f, 1, 0x107)
	// All of it is to be in the range.
	expectUp(t, "the second", x, at(0), 0x17, 2, 0x207)
	expectUp(t, "the second", x, at(0), 0x10, 0x10, 0x200)
	expectUp(t, "the third", x, at(0), 0x1f, 2, 0x31f)
	expectUp(t, "the third", x, at(0), 0x10, 0x11, 0x310)
	expectUp(t, "the third", x, at(0), 0, 0x40, 0x300)
	// Two ranges together aren't one.
	x = one(0, 0x100, 0x10, 0x10, 0x110, 0x10)
	expectUp(t, "side by side", x, at(0), 0x0f, 1, 0x10f)
	expectUp(t, "side by side", x, at(0), 0x10, 1, 0x110)
	refuseUp(t, "side by side", x, at(0), 0x0f, 2, api.ErrRange)
	refuseUp(t, "side by side", x, at(0), 0, 0x20, api.ErrRange)
	// One of no size has nothing in it.
	expectUp(t, "no size", one(0, 0x100, 0, 0, 0x200, 1), at(0), 0, 1, 0x200)
	refuseUp(t, "no size", one(0, 0x100, 0), at(0), 0, 1, api.ErrRange)
	refuseUp(t, "no size cells", rooted(counting(1, 1), ranging(1, 0, 0, 0x100)), at(0), 0, 1, api.ErrRange)
}

func TestUpWithoutChange(t *testing.T) {
	x := one()
	for _, v := range []uint64{0, 1, 1 << 32, 1 << 63, last - 1} {
		expectUp(t, "no bytes", x, at(0), v, 1, v)
		expectUp(t, "no bytes", x, at(0), v, last-v, v)
		refuseUp(t, "no bytes", x, at(0), v, last-v+1, api.ErrRange)
		refuseUp(t, "no bytes", x, at(0), v, 0, api.ErrRange)
	}
	// Its size is 2^64 - 1, so that the last address isn't in it.
	refuseUp(t, "no bytes", x, at(0), last, 1, api.ErrRange)
	refuseUp(t, "no property", rooted(counting(1, 1), counting(1, 1)), at(0), 0, 1, api.ErrRange)
	refuseUp(t, "no property", rooted(counting(1, 1), api.Node{}), at(0), 5, 0, api.ErrRange)
}

func TestUpAtTheEnd(t *testing.T) {
	const big = 0xffffffff
	// 32 bytes, of which only 16 are there above.
	x := two(0, 0x100, big, big-15, 0, 32)
	expectUp(t, "the end", x, at(0), 0x100, 1, last-15)
	expectUp(t, "the end", x, at(0), 0x100, 16, last-15)
	expectUp(t, "the end", x, at(0), 0x10f, 1, last)
	refuseUp(t, "the end", x, at(0), 0x100, 17, api.ErrRange)
	refuseUp(t, "the end", x, at(0), 0x100, 32, api.ErrRange)
	refuseUp(t, "the end", x, at(0), 0x10f, 2, api.ErrRange)
	refuseUp(t, "the end", x, at(0), 0x110, 1, api.ErrRange)
	refuseUp(t, "the end", x, at(0), 0x11f, 1, api.ErrRange)
	// The first range in which all of it is holds, even if there is a better one.
	x = two(0, 0x100, big, big-15, 0, 32, 0, 0x100, 0, 0, 0, 32)
	refuseUp(t, "another one", x, at(0), 0x110, 1, api.ErrRange)
	expectUp(t, "another one", x, at(0), 0x10f, 1, last)
	// A range that goes beyond below has nothing in it, and one behind it is asked.
	x = two(big, big-15, 0, 0, 0, 17, big, big-15, 0, 0x100, 0, 16)
	expectUp(t, "beyond below", x, at(0), last-15, 16, 0x100)
	expectUp(t, "beyond below", x, at(0), last, 1, 0x10f)
	refuseUp(t, "beyond below", x, at(0), 0, 1, api.ErrRange)
	refuseUp(t, "beyond below", x, at(0), last, 2, api.ErrRange)
	// Great numbers, far up and far down.
	x = two(0, 0, 0, 1, big, big)
	expectUp(t, "one further", x, at(0), 0, last, 1)
	expectUp(t, "one further", x, at(0), last-1, 1, last)
	refuseUp(t, "one further", x, at(0), last, 1, api.ErrRange)
	x = two(0, 1, 0, 0, big, big)
	expectUp(t, "one back", x, at(0), 1, last, 0)
	expectUp(t, "one back", x, at(0), last, 1, last-1)
	refuseUp(t, "one back", x, at(0), 0, 1, api.ErrRange)
	x = two(0, 0, big, big, big, big)
	expectUp(t, "the last", x, at(0), 0, 1, last)
	refuseUp(t, "the last", x, at(0), 0, 2, api.ErrRange)
	refuseUp(t, "the last", x, at(0), 1, 1, api.ErrRange)
	refuseUp(t, "the last", x, at(0), last-1, 1, api.ErrRange)
	refuseUp(t, "the last", x, at(0), 0, last, api.ErrRange)
}

// levels is a tree of buses below one another, each of other cells than the one above.
func levels() api.Tree {
	c := with(ranging(2, 0), reg(0, 9))
	b := with(ranging(1, 1, 0, 0, 0x80, 0x40, 0x40, 1, 0, 0x40), reg(8, 8, 0x44, 4), c)
	a := with(ranging(2, 1, 0, 0, 0x1000, 0x100, 1, 0, 0x9000, 0x20), reg(0, 4, 4, 1, 8, 8), b)
	return rooted(counting(1, 2), reg(7, 0, 8, 0, 1, 0), a)
}

func TestUpOfSeveralLevels(t *testing.T) {
	x := levels()
	expectUp(t, "the root", x, nil, 5, 1, 5)
	expectUp(t, "one", x, at(1), 0x20, 16, 0x1020)
	expectUp(t, "one, far", x, at(1), 1<<32+0x1f, 1, 0x901f)
	refuseUp(t, "one, too far", x, at(1), 1<<32+0x1f, 2, api.ErrRange)
	expectUp(t, "two", x, at(1, 1), 8, 16, 0x1088)
	expectUp(t, "two, all of it", x, at(1, 1), 0, 0x40, 0x1080)
	expectUp(t, "two, far", x, at(1, 1), 0x40, 0x20, 0x9000)
	// It is in the range of the lower one, not in the one above.
	refuseUp(t, "two, too far", x, at(1, 1), 0x40, 0x21, api.ErrRange)
	refuseUp(t, "two, too far", x, at(1, 1), 0x60, 1, api.ErrRange)
	refuseUp(t, "two, over two ranges", x, at(1, 1), 0x3f, 2, api.ErrRange)
	expectUp(t, "three", x, at(1, 1, 1), 0x3f, 1, 0x10bf)
	refuseUp(t, "of a device", x, at(0), 0, 1, api.ErrRange)
	refuseUp(t, "of a device below", x, at(1, 1, 0), 0, 1, api.ErrRange)
}

func TestUpOfNoNode(t *testing.T) {
	x := levels()
	long := make([]int, 40)
	for _, place := range [][]int{at(2), at(-1), at(0, 0), at(1, 2), at(1, -1), at(-1, 0), at(1, 1, 2), at(1, 1, 1, 1), at(2, 0), at(1 << 62), at(-1 << 63), long, make([]int, 1<<16)} {
		refuseUp(t, "no node", x, place, 0, 1, api.ErrNone)
		refuseUp(t, "no node", x, place, last, last, api.ErrNone)
		refuseWindows(t, "no node", x, place, api.ErrNone)
		refuseWindows(t, "no tree", api.Tree{}, place, api.ErrNone)
	}
	// That is asked ahead of what the nodes on the way say.
	wrong := rooted(counting(9, 9), ranging(1, 1, 1))
	refuseUp(t, "no node below a wrong one", wrong, at(0, 0), 0, 1, api.ErrNone)
	refuseWindows(t, "no node below a wrong one", wrong, at(0, 0), api.ErrNone)
}

func TestUpOfWrongRanges(t *testing.T) {
	wrong := ranging(1, 1, 1, 2)
	right := ranging(1, 1, 0, 0x10, 0x10)
	refuseUp(t, "its own", rooted(counting(1, 1), wrong), at(0), 1, 1, api.ErrCells)
	refuseUp(t, "its own, no bytes", rooted(counting(1, 1), wrong), at(0), 1, 0, api.ErrCells)
	refuseUp(t, "its counts", rooted(counting(1, 1), ranging(3, 1, 1, 2, 3)), at(0), 1, 1, api.ErrCells)
	refuseUp(t, "the root's counts", rooted(counting(0, 1), right), at(0), 1, 1, api.ErrCells)
	refuseUp(t, "no cells of an address", rooted(counting(1, 1), ranging(0, 1)), at(0), 1, 1, api.ErrCells)
	x := rooted(counting(1, 1), with(wrong, right))
	refuseUp(t, "one above", x, at(0, 0), 1, 1, api.ErrCells)
	// Who isn't seen from its parent doesn't come to what is above.
	refuseUp(t, "one above, but not seen", x, at(0, 0), 0x10, 1, api.ErrRange)
	refuseUp(t, "one above, but no ranges", rooted(counting(1, 1), with(wrong, counting(1, 1))), at(0, 0), 0, 1, api.ErrRange)
	refuseUp(t, "one below a bus without ranges", rooted(counting(1, 1), with(counting(1, 1), wrong)), at(0, 0), 0, 1, api.ErrCells)
	refuseUp(t, "a bus without ranges on the way", rooted(counting(1, 1), with(counting(1, 1), right)), at(0, 0), 0, 1, api.ErrRange)
	// Nor is what is wrong beside the way asked.
	expectUp(t, "one beside it", rooted(counting(1, 1), wrong, with(right, wrong)), at(1), 1, 1, 0x11)
}

func TestWindows(t *testing.T) {
	x := levels()
	refuseWindows(t, "the root", x, nil, api.ErrArg)
	refuseWindows(t, "the root", x, []int{}, api.ErrArg)
	refuseWindows(t, "the root, with a reg", rooted(reg(1, 2, 3)), nil, api.ErrArg)
	expectWindows(t, "below the root", x, at(0), region.Window{At: 7, Size: 8}, region.Window{At: 0, Size: 1 << 32})
	expectWindows(t, "one", x, at(1, 0), region.Window{At: 0x1004, Size: 4}, region.Window{At: 0x9008, Size: 8})
	expectWindows(t, "two", x, at(1, 1, 0), region.Window{At: 0x1088, Size: 8}, region.Window{At: 0x9004, Size: 4})
	// No bytes are in no range.
	refuseWindows(t, "three, of no size", x, at(1, 1, 1, 0), api.ErrRange)
}

// What is right below the root is seen as it is, whatever it is.
func TestWindowsBelowTheRoot(t *testing.T) {
	const big = 0xffffffff
	x := rooted(counting(2, 2), reg(big, big, big, big, 0, 0, 0, 0, big, big, 0, 1), having(), reg())
	expectWindows(t, "below the root", x, at(0), region.Window{At: last, Size: last}, region.Window{}, region.Window{At: last, Size: 1})
	expectWindows(t, "no reg", x, at(1))
	expectWindows(t, "no bytes", x, at(2))
	expectWindows(t, "no size cells", rooted(counting(1, 0), reg(4, 5)), at(0), region.Window{At: 4}, region.Window{At: 5})
	expectWindows(t, "a root that isn't seen from above", rooted(ranging(1, 1, 1), reg(4, 5)), at(0), region.Window{At: 4, Size: 5})
}

func TestWindowsThatAreWrong(t *testing.T) {
	bus := func(ranges api.Node, kids ...api.Node) api.Tree { return rooted(counting(1, 1), with(ranges, kids...)) }
	right, wrong := ranging(1, 1, 0, 0x10, 0x10), ranging(1, 1, 1, 2)
	refuseWindows(t, "its reg", bus(right, reg(1)), at(0, 0), api.ErrCells)
	refuseWindows(t, "its reg, ahead of what isn't seen", bus(right, reg(0x99, 1, 1)), at(0, 0), api.ErrCells)
	refuseWindows(t, "its reg, below a bus without ranges", bus(counting(1, 1), reg(1)), at(0, 0), api.ErrCells)
	refuseWindows(t, "the counts", bus(counting(3, 1), reg(1, 2)), at(0, 0), api.ErrCells)
	refuseWindows(t, "the root's counts", rooted(counting(0, 1), reg(1)), at(0), api.ErrCells)
	refuseWindows(t, "its parent's ranges", bus(wrong, reg(1, 2)), at(0, 0), api.ErrCells)
	refuseWindows(t, "a parent without ranges", bus(counting(1, 1), reg(1, 2)), at(0, 0), api.ErrRange)
	refuseWindows(t, "the second one isn't seen", bus(right, reg(1, 2, 15, 2)), at(0, 0), api.ErrRange)
	refuseWindows(t, "the first one isn't seen", bus(right, reg(15, 2, 1, 2)), at(0, 0), api.ErrRange)
	refuseWindows(t, "one of no size", bus(right, reg(1, 0)), at(0, 0), api.ErrRange)
	// Its own ranges are of those below it.
	own := ranging(1, 1, 1, 2)
	own.Props[0] = val("reg", prop.FromCells(1, 2))
	expectWindows(t, "its own wrong ranges, below the root", rooted(counting(1, 1), own), at(0), region.Window{At: 1, Size: 2})
	expectWindows(t, "its own wrong ranges", bus(right, own), at(0, 0), region.Window{At: 0x11, Size: 2})
	// Without windows nobody asks whether they are seen.
	expectWindows(t, "no reg", bus(wrong, having()), at(0, 0))
	expectWindows(t, "no reg, and no ranges", bus(counting(1, 1), having()), at(0, 0))
	expectWindows(t, "a reg of no bytes", bus(wrong, reg()), at(0, 0))
}

// The first window's errors come ahead of the second one's, wherever on the way they are.
func TestWindowsAreAskedInOrder(t *testing.T) {
	bus := ranging(1, 1, 0, 0x10, 0x10)
	x := rooted(counting(1, 1), with(ranging(1, 1, 1), with(bus, reg(1, 1, 0x20, 1), reg(0x20, 1, 1, 1))))
	refuseWindows(t, "the first one is seen from further up", x, at(0, 0, 0), api.ErrCells)
	refuseWindows(t, "the second one is seen from further up", x, at(0, 0, 1), api.ErrRange)
}

// chain answers a tree of so many nodes below the root, each but the lowest one a bus, by which an address goes up by one.
func chain(nodes int, lowest api.Node) api.Tree {
	n := lowest
	for range nodes - 1 {
		n = with(rangeBy(1), n)
	}
	return rooted(counting(1, 1), n)
}

func rangeBy(v uint32) api.Node { return ranging(1, 1, 0, v, 1<<30) }

func TestDeepTrees(t *testing.T) {
	// The last of these places are too long for a formed tree, but the nodes are there.
	for _, nodes := range []int{1, 2, api.MaxDepth - 1, api.MaxDepth, api.MaxDepth + 1, api.MaxDepth + 2, 1<<16 - 1} {
		what := strconv.Itoa(nodes) + " nodes"
		place, far := make([]int, nodes), uint64(nodes)
		expectUp(t, what, chain(nodes, rangeBy(1)), place, 8, 4, 8+far)
		expectWindows(t, what, chain(nodes, reg(8, 4, 9, 3)), place, region.Window{At: 7 + far, Size: 4}, region.Window{At: 8 + far, Size: 3})
		refuseUp(t, what, chain(nodes, rangeBy(1)), append(place, 0), 8, 4, api.ErrNone)
		refuseWindows(t, what, chain(nodes, rangeBy(1)), append(place, 0), api.ErrNone)
	}
}

func TestManyWindowsAndRanges(t *testing.T) {
	const many = 1 << 11
	var ranges, windows []uint32
	var want []region.Window
	for i := range uint32(many) {
		ranges = append(ranges, i*16, (many-i)*32, 16)
		windows = append(windows, i*16+i%16, 1)
		want = append(want, region.Window{At: uint64((many-i)*32 + i%16), Size: 1})
	}
	x := rooted(counting(1, 1), with(ranging(1, 1), with(ranging(1, 1, ranges...), reg(windows...))))
	expectWindows(t, "many", x, at(0, 0, 0), want...)
}

func TestWideTrees(t *testing.T) {
	x := rooted(counting(1, 1))
	for i := range uint32(1 << 16) {
		x.Root.Kids = append(x.Root.Kids, with(rangeBy(i), reg(i, 1)))
	}
	for _, i := range []int{0, 1, 1<<16 - 1} {
		expectUp(t, "wide", x, at(i), 5, 1, uint64(i)+5)
		expectWindows(t, "wide", x, at(i, 0), region.Window{At: uint64(2 * i), Size: 1})
	}
	refuseUp(t, "wide", x, at(1<<16), 5, 1, api.ErrNone)
}
