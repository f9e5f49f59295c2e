package irq

import (
	"slices"
	"strconv"
	"testing"

	"arboret/api"
)

// The tests of this file are P14.2's, and Controller's.

func expectThrough(t *testing.T, what string, x api.Tree, l, want Line) {
	t.Helper()
	if got, e := Through(x, l); !sameLine(got, want) || e != api.OK {
		t.Errorf("%s: Through(%v) = %v, %v, not %v", what, l, got, e, want)
	}
}

func refuseThrough(t *testing.T, what string, x api.Tree, l Line, want api.Errno) {
	t.Helper()
	if got, e := Through(x, l); !sameLine(got, Line{}) || e != want {
		t.Errorf("%s: Through(%v) = %v, %v, not %v", what, l, got, e, want)
	}
}

func expectRoot(t *testing.T, what string, x api.Tree, l Line, way ...Line) {
	t.Helper()
	got, on, e := Root(x, l)
	if !sameLine(got, way[len(way)-1]) || !slices.EqualFunc(on, way, sameLine) || e != api.OK {
		t.Errorf("%s: Root(%v) = %v, %v, %v, not %v", what, l, got, on, e, way)
	}
}

func refuseRoot(t *testing.T, what string, x api.Tree, l Line, want api.Errno) {
	t.Helper()
	if got, way, e := Root(x, l); !sameLine(got, Line{}) || len(way) != 0 || e != want {
		t.Errorf("%s: Root(%v) = %v, %v, %v, not %v", what, l, got, way, e, want)
	}
}

// refuseBoth is of what Through refuses, and so Root.
func refuseBoth(t *testing.T, what string, x api.Tree, l Line, want api.Errno) {
	t.Helper()
	refuseThrough(t, what, x, l, want)
	refuseRoot(t, what, x, l, want)
}

// mapped answers a nexus with that handle, and those entries.
func mapped(h uint32, entries ...uint32) api.Node {
	return handled(h, cells("interrupt-map", entries...))
}

func masked(n api.Node, mask ...uint32) api.Node {
	n.Props = append(slices.Clone(n.Props), cells("interrupt-map-mask", mask...))
	return n
}

func TestController(t *testing.T) {
	is, count := val("interrupt-controller", nil), cells("#interrupt-cells", 1)
	for _, c := range []struct {
		what string
		n    api.Node
		want bool
	}{
		{"both", having(is, count), true},
		{"both, the other way round", having(val("reg", nil), count, cells("phandle", 7), is), true},
		{"a value", having(val("interrupt-controller", []byte("yes")), count), true},
		{"a map beside", having(is, count, cells("interrupt-map", 1)), true},
		{"nothing", api.Node{}, false},
		{"a name alone", api.Node{Name: "interrupt-controller"}, false},
		{"no count", having(is), false},
		{"a count alone", having(count), false},
		{"a map instead", having(cells("interrupt-map"), count), false},
		{"no cells", having(is, cells("#interrupt-cells", 0)), false},
		{"two cells", having(is, cells("#interrupt-cells", 2)), false},
		{"a count of no cell", having(is, cells("#interrupt-cells")), false},
		{"a count of two cells", having(is, cells("#interrupt-cells", 1, 1)), false},
		{"a count of a byte", having(is, val("#interrupt-cells", []byte{1})), false},
		{"a count of five bytes", having(is, val("#interrupt-cells", []byte{0, 0, 0, 1, 0})), false},
		{"a great count", having(is, cells("#interrupt-cells", 1<<24)), false},
		{"the first count of two", having(is, count, cells("#interrupt-cells", 2)), true},
		{"the second count of two", having(is, cells("#interrupt-cells", 2), count), false},
		{"that below it", with(having(), having(is, count)), false},
	} {
		if got := Controller(c.n); got != c.want {
			t.Errorf("%s: Controller = %v", c.what, got)
		}
	}
}

// hub is a nexus at 0, and others that it leads to: controllers at 1 and 2, a nexus at 3, and one that is neither at 4.
func hub() api.Tree {
	return rooted(
		mapped(9, 1, 1, 11, 1, 2, 99, 2, 2, 22, 3, 7, 5, 4, 8, 6, 5, 6, 1, 1<<32-1, 1, 1<<32-2, 0, 2, 0, 7, 1, 77),
		ctrl(1), ctrl(2, cells("interrupts-extended", 1, 4)),
		with(mapped(7, 5, 2, 50, 6, 1, 60), ctrl(70)),
		handled(8),
	)
}

func TestThrough(t *testing.T) {
	x := hub()
	expectThrough(t, "a controller's own", x, line(0, 1), line(0, 1))
	expectThrough(t, "a controller's own", x, line(1<<32-1, 1), line(1<<32-1, 1))
	expectThrough(t, "a controller with lines", x, line(3, 2), line(3, 2))
	expectThrough(t, "a controller below a nexus", x, line(3, 3, 0), line(3, 3, 0))
	expectThrough(t, "the first entry of that line", x, line(1, 0), line(11, 1))
	expectThrough(t, "one further on", x, line(2, 0), line(22, 2))
	expectThrough(t, "the last line", x, line(1<<32-1, 0), line(1<<32-2, 1))
	expectThrough(t, "the line 0", x, line(0, 0), line(0, 2))
	expectThrough(t, "behind a line 0", x, line(7, 0), line(77, 1))
	expectThrough(t, "two on the way", x, line(3, 0), line(50, 2))
	expectThrough(t, "the second one alone", x, line(6, 3), line(60, 1))
	refuseBoth(t, "no such entry", x, line(11, 0), api.ErrNone)
	refuseBoth(t, "no such entry", x, line(1<<31, 0), api.ErrNone)
	refuseBoth(t, "no such entry further on", x, line(3, 3), api.ErrNone)
	refuseBoth(t, "to one that is neither", x, line(4, 0), api.ErrNone)
	refuseBoth(t, "one that is neither", x, line(4, 4), api.ErrNone)
	refuseBoth(t, "the root is neither", x, line(4), api.ErrNone)
	refuseBoth(t, "to nobody", x, line(5, 0), api.ErrHandle)
	refuseBoth(t, "no entries", rooted(mapped(1)), line(0, 0), api.ErrNone)
	refuseBoth(t, "no tree", api.Tree{}, Line{}, api.ErrNone)
	x.Root.Props = ctrl(6).Props
	expectThrough(t, "the root is a controller", x, line(4), line(4))
	expectThrough(t, "to the root", x, line(5, 0), line(1))
}

func TestThroughWhatIsBoth(t *testing.T) {
	both := func(props ...api.Prop) api.Tree {
		return rooted(having(append(props, cells("interrupt-map", 3, 1, 30))...), ctrl(1))
	}
	is := val("interrupt-controller", nil)
	expectThrough(t, "a controller, whatever its map", both(is, cells("#interrupt-cells", 1)), line(3, 0), line(3, 0))
	expectThrough(t, "a controller, whatever its map", both(is, cells("#interrupt-cells", 1)), line(4, 0), line(4, 0))
	// Who is no controller, as its count is wrong, may be a nexus yet.
	expectThrough(t, "no controller", both(is, cells("#interrupt-cells", 2)), line(3, 0), line(30, 1))
	refuseBoth(t, "no controller", both(is, cells("#interrupt-cells", 2)), line(4, 0), api.ErrNone)
	expectThrough(t, "a nexus with a count", both(cells("#interrupt-cells", 1)), line(3, 0), line(30, 1))
	refuseBoth(t, "neither, with a count", rooted(having(cells("#interrupt-cells", 1))), line(3, 0), api.ErrNone)
	refuseBoth(t, "neither, without one", rooted(having(is)), line(3, 0), api.ErrNone)
	refuseBoth(t, "a wrong controller, and a wrong map", rooted(having(is, cells("interrupt-map", 1))), line(3, 0), api.ErrForm)
	refuseBoth(t, "a mask alone", rooted(masked(having(), 0)), line(3, 0), api.ErrNone)
	refuseBoth(t, "a wrong mask alone", rooted(masked(having())), line(3, 0), api.ErrNone)
}

func TestThroughMask(t *testing.T) {
	entries := []uint32{0x12, 1, 1, 0x31, 1, 2, 0x22, 1, 3, 0x80000004, 1, 4}
	of := func(mask uint32) api.Tree { return rooted(masked(mapped(9, entries...), mask), ctrl(1)) }
	for _, c := range []struct{ mask, line, want uint32 }{
		{1<<32 - 1, 0x12, 1}, {1<<32 - 1, 0x22, 3}, {1<<32 - 1, 0x80000004, 4}, {1<<32 - 1, 2, 0}, {1<<32 - 1, 4, 0},
		// Laid on what is asked, and on the entry: what is left of the entry alone may be the line.
		{0xf, 2, 1}, {0xf, 0x12, 1}, {0xf, 0x22, 1}, {0xf, 0xfffffff2, 1}, {0xf, 1, 2}, {0xf, 0xf1, 2}, {0xf, 4, 4}, {0xf, 3, 0}, {0xf, 0, 0},
		{0xf0, 0x2f, 3}, {0xf0, 0x1f, 1}, {0xf0, 0x3f, 2}, {0xf0, 0xf, 4}, {0xf0, 0x40, 0},
		{1 << 31, 1 << 31, 4}, {1 << 31, 1<<31 - 1, 1}, {0, 0x99, 1}, {0, 0, 1},
	} {
		what, l := "mask "+strconv.FormatUint(uint64(c.mask), 16), line(c.line, 0)
		if c.want == 0 {
			refuseBoth(t, what, of(c.mask), l, api.ErrNone)
		} else {
			// The line there is as the entry says, whatever the mask.
			expectThrough(t, what, of(c.mask), l, line(c.want, 1))
		}
	}
	refuseBoth(t, "a mask of nought, and no entry", rooted(masked(mapped(9), 0)), line(1, 0), api.ErrNone)
	// A mask is its own node's alone.
	x := rooted(masked(mapped(9, 1, 8, 0x13), 0xf), mapped(8, 3, 1, 7, 0x13, 1, 8), ctrl(1))
	expectThrough(t, "the next one has none", x, line(0x21, 0), line(8, 2))
	x.Root.Props = []api.Prop{cells("interrupt-map-mask", 0)}
	refuseBoth(t, "nor is it of those below", x, line(0x13, 0), api.ErrNone)
}

func TestThroughWhatIsWrong(t *testing.T) {
	to := func(n api.Node) api.Tree { return rooted(n, ctrl(1), handled(5)) }
	n := func(value []byte) api.Node { return handled(9, val("interrupt-map", value)) }
	right := mapped(9, 3, 1, 30)
	for _, c := range []struct {
		what string
		n    api.Node
		want api.Errno
	}{
		{"a cell", mapped(9, 3), api.ErrForm},
		{"two cells", mapped(9, 3, 1), api.ErrForm},
		{"four cells", mapped(9, 3, 1, 30, 3), api.ErrForm},
		{"five cells, the entry first", mapped(9, 3, 1, 30, 3, 1), api.ErrForm},
		{"a byte", n([]byte{1}), api.ErrForm},
		{"eleven bytes", n(make([]byte, 11)), api.ErrForm},
		{"thirteen bytes", n(make([]byte, 13)), api.ErrForm},
		{"a mask of no cell", masked(right), api.ErrForm},
		{"a mask of two cells", masked(right, 3, 3), api.ErrForm},
		{"a mask of a byte", handled(9, right.Props[2], val("interrupt-map-mask", []byte{255})), api.ErrForm},
		{"a wrong mask, and no entry", masked(mapped(9)), api.ErrForm},
		{"a wrong map, and nobody's handle", mapped(9, 3, 4, 30, 1), api.ErrForm},
		{"nobody's handle", mapped(9, 3, 4, 30), api.ErrHandle},
		{"nobody's handle, ahead of a right one", mapped(9, 3, 4, 30, 3, 1, 30), api.ErrHandle},
		{"the handle 0", mapped(9, 3, 0, 30), api.ErrHandle},
		{"the greatest cell as a handle", mapped(9, 3, 1<<32-1, 30), api.ErrHandle},
		{"no such line, and nobody's handle", mapped(9, 4, 4, 30), api.ErrNone},
		{"no such line", mapped(9, 4, 1, 30), api.ErrNone},
		{"the first map of two", handled(9, cells("interrupt-map", 4, 1, 30), cells("interrupt-map", 3, 1, 30)), api.ErrNone},
		{"the first mask of two", masked(masked(mapped(9, 0x13, 1, 30), 0x10), 0xf), api.ErrNone},
		{"to itself", mapped(9, 3, 9, 3), api.ErrLoop},
	} {
		x := to(c.n)
		refuseBoth(t, c.what, x, line(3, 0), c.want)
		// And so where another one leads to it.
		x.Root.Kids[2] = mapped(5, 8, 9, 3)
		refuseBoth(t, c.what+", one further on", x, line(8, 2), c.want)
	}
	x := rooted(mapped(9, 3, 5, 4, 4, 1, 3), ctrl(1), mapped(5, 4, 9, 3))
	refuseBoth(t, "round and round", x, line(3, 0), api.ErrLoop)
	expectThrough(t, "round, to another line", rooted(mapped(9, 3, 5, 4, 4, 1, 3), ctrl(1), mapped(5, 4, 9, 4)), line(3, 0), line(3, 1))
	// Handles of other entries aren't asked.
	expectThrough(t, "nobody's handles beside", to(mapped(9, 4, 4, 4, 3, 1, 30, 3, 4, 4)), line(3, 0), line(30, 1))
}

func TestThroughWrongHandles(t *testing.T) {
	for what, c := range badHandles() {
		x := rooted(mapped(9, 3, 2, 30, 4, 6, 1), ctrl(2), mapped(8, 1), handled(7, cells("phandle", 1)), c.node)
		refuseBoth(t, what, x, line(3, 0), c.want)
		refuseBoth(t, what+", to nobody", x, line(4, 0), c.want)
		refuseBoth(t, what+", but there is no entry", x, line(5, 0), api.ErrNone)
		refuseBoth(t, what+", but the map is asked first", x, line(3, 2), api.ErrForm)
		refuseBoth(t, what+", but it is neither", x, line(3, 3), api.ErrNone)
		expectThrough(t, what+", but nobody asks", x, line(3, 1), line(3, 1))
		expectRoot(t, what+", but nobody asks", x, line(3, 1), line(3, 1))
	}
}

func TestThroughNoNode(t *testing.T) {
	x := hub()
	for _, place := range [][]int{at(5), at(-1), at(0, 0), at(3, 1), at(3, -1), at(3, 0, 0), at(-1, 0), at(1 << 62), at(-1 << 63), make([]int, api.MaxDepth), make([]int, api.MaxDepth+1), make([]int, 1<<16)} {
		refuseBoth(t, "no node", x, line(1, place...), api.ErrNone)
		refuseBoth(t, "no tree", api.Tree{}, line(1, place...), api.ErrNone)
	}
	x.Root.Props = ctrl(90).Props
	refuseBoth(t, "no node below a controller", x, line(1, 5), api.ErrNone)
}

// nexuses answers a tree of so many of them, each of which leads, with a line one greater, to the next one, and the last one to last.
func nexuses(many uint32, last api.Node) api.Tree {
	var kids []api.Node
	for i := range many {
		kids = append(kids, mapped(i+1, i, i+2, i+1))
	}
	return rooted(append(kids, last)...)
}

func TestThroughManyNodes(t *testing.T) {
	const most = api.MaxDepth
	for _, many := range []uint32{1, 2, most - 2, most - 1} {
		what := strconv.Itoa(int(many)) + " ahead"
		expectThrough(t, what, nexuses(many, ctrl(many+1)), line(0, 0), line(many, int(many)))
		expectRoot(t, what, nexuses(many, ctrl(many+1)), line(0, 0), line(many, int(many)))
	}
	for _, many := range []uint32{most, most + 1, 2 * most, 100} {
		what := strconv.Itoa(int(many)) + " ahead"
		x := nexuses(many, ctrl(many+1))
		refuseBoth(t, what, x, line(0, 0), api.ErrLoop)
		first := many - most
		refuseBoth(t, what, x, line(first, int(first)), api.ErrLoop)
		expectThrough(t, what, x, line(first+1, int(first)+1), line(many, int(many)))
		// Nor does it matter what is behind the first MaxDepth nodes.
		refuseBoth(t, what, nexuses(many, handled(many+1)), line(first, int(first)), api.ErrLoop)
		refuseBoth(t, what, nexuses(many, mapped(many+1, 1)), line(first, int(first)), api.ErrLoop)
	}
	// What is wrong with the last one of them is named first.
	x := nexuses(most-1, handled(most))
	refuseBoth(t, "the last one is neither", x, line(0, 0), api.ErrNone)
	refuseBoth(t, "the last one is wrong", nexuses(most-1, mapped(most, 1)), line(0, 0), api.ErrForm)
	refuseBoth(t, "the last one has no such entry", nexuses(most-1, mapped(most, 1, 1, 1)), line(0, 0), api.ErrNone)
	refuseBoth(t, "the last one leads to nobody", nexuses(most, having()), line(0, 0), api.ErrHandle)
}

func TestRoot(t *testing.T) {
	x := hub()
	expectRoot(t, "no lines", x, line(3, 1), line(3, 1))
	expectRoot(t, "by a nexus", x, line(1, 0), line(11, 1))
	expectRoot(t, "a controller with a line", x, line(7, 2), line(7, 2), line(4, 1))
	expectRoot(t, "by a nexus to one with a line", x, line(2, 0), line(22, 2), line(4, 1))
	expectRoot(t, "by two to one with a line", x, line(3, 0), line(50, 2), line(4, 1))
	// The line at a controller that a line comes to is lost above: its own one holds, by a nexus too, and the first one alone.
	x = rooted(
		ctrl(1, cells("interrupts", 7, 8), cells("interrupt-parent", 2)),
		mapped(2, 7, 3, 70, 8, 4, 80),
		ctrl(3, cells("interrupts-extended", 2, 8, 6, 1)),
		with(having(cells("interrupt-parent", 5)), ctrl(4, cells("interrupts", 1, 2))),
		ctrl(5), handled(6),
	)
	expectRoot(t, "four of them", x, line(9, 0), line(9, 0), line(70, 2), line(80, 3, 0), line(1, 4))
	expectRoot(t, "three of them", x, line(9, 2), line(9, 2), line(80, 3, 0), line(1, 4))
	expectRoot(t, "three of them", x, line(7, 1), line(70, 2), line(80, 3, 0), line(1, 4))
	x.Root.Props = ctrl(8, cells("interrupts-extended", 4, 5)).Props
	expectRoot(t, "from the root", x, line(1), line(1), line(5, 3, 0), line(1, 4))
	x.Root.Kids[4] = having()
	x.Root.Props = ctrl(5).Props
	expectRoot(t, "to the root", x, line(1, 3, 0), line(1, 3, 0), line(1))
}

func TestRootNoLines(t *testing.T) {
	for _, p := range []api.Prop{cells("interrupts"), cells("interrupts-extended"), cells("interrupt-parent", 4), cells("reg", 1, 2)} {
		expectRoot(t, p.Name, rooted(ctrl(1, p)), line(2, 0), line(2, 0))
		expectRoot(t, p.Name, rooted(ctrl(1, p), ctrl(2, cells("interrupts-extended", 1, 6))), line(2, 1), line(2, 1), line(6, 0))
	}
}

func TestRootIsWrong(t *testing.T) {
	pairs := func(l ...uint32) api.Prop { return cells("interrupts-extended", l...) }
	for _, c := range []struct {
		what  string
		props []api.Prop
		want  api.Errno
	}{
		{"no pairs", []api.Prop{pairs(1)}, api.ErrForm},
		{"no cells", []api.Prop{val("interrupts", []byte{1})}, api.ErrForm},
		{"nobody's handle", []api.Prop{pairs(9, 1)}, api.ErrHandle},
		// Though the first one alone is followed, all of them are to be lines.
		{"nobody's handle behind a right one", []api.Prop{pairs(1, 1, 9, 1)}, api.ErrHandle},
		{"no parent", []api.Prop{cells("interrupts", 1)}, api.ErrNone},
		{"a parent that is no cell", []api.Prop{cells("interrupts", 1), cells("interrupt-parent", 1, 1)}, api.ErrForm},
		{"a parent that is nobody", []api.Prop{cells("interrupts", 1), cells("interrupt-parent", 9)}, api.ErrHandle},
		{"at one that is neither", []api.Prop{pairs(5, 1)}, api.ErrNone},
		{"at a nexus without such a line", []api.Prop{pairs(6, 1)}, api.ErrNone},
		{"at a nexus that leads to nobody", []api.Prop{pairs(6, 2)}, api.ErrHandle},
		{"at a nexus that is wrong", []api.Prop{pairs(7, 1)}, api.ErrForm},
		{"at a nexus that leads to itself", []api.Prop{pairs(6, 3)}, api.ErrLoop},
		{"at itself", []api.Prop{pairs(2, 1)}, api.ErrLoop},
		{"at one that is at it", []api.Prop{pairs(3, 1)}, api.ErrLoop},
		{"at one that is at itself", []api.Prop{pairs(4, 1)}, api.ErrLoop},
	} {
		x := rooted(ctrl(1), ctrl(2, c.props...), ctrl(3, pairs(2, 4)), ctrl(4, pairs(4, 0)), handled(5), mapped(6, 2, 9, 1, 3, 6, 3, 4, 2, 8), mapped(7, 1))
		expectThrough(t, c.what, x, line(8, 1), line(8, 1))
		refuseRoot(t, c.what, x, line(8, 1), c.want)
		refuseRoot(t, c.what+", one further on", x, line(8, 2), c.want)
		refuseRoot(t, c.what+", behind a nexus", x, line(4, 5), c.want)
	}
}

// towers answers a tree of so many controllers, each with a line at the next one, and the last one at last.
func towers(many uint32, last api.Node) api.Tree {
	var kids []api.Node
	for i := range many {
		kids = append(kids, ctrl(i+1, cells("interrupts-extended", i+2, i+1)))
	}
	return rooted(append(kids, last)...)
}

func TestRootOfManyControllers(t *testing.T) {
	const most = api.MaxDepth
	for _, many := range []uint32{0, 1, 2, most - 2, most - 1} {
		var way []Line
		for i := range many + 1 {
			way = append(way, line(i, int(i)))
		}
		expectRoot(t, strconv.Itoa(int(many))+" ahead", towers(many, ctrl(many+1)), line(0, 0), way...)
	}
	for _, many := range []uint32{most, most + 1, 3 * most} {
		what := strconv.Itoa(int(many)) + " ahead"
		x := towers(many, ctrl(many+1))
		refuseRoot(t, what, x, line(0, 0), api.ErrLoop)
		first := many - most
		refuseRoot(t, what, x, line(first, int(first)), api.ErrLoop)
		if _, way, e := Root(x, line(0, int(first)+1)); e != api.OK || len(way) != most {
			t.Errorf("%s: %v, %v", what, way, e)
		}
	}
	// What is wrong on the way is named ahead of how long it is; what is wrong with one that is one too many isn't asked.
	refuseRoot(t, "the last one has a wrong line", towers(most-1, ctrl(most, cells("interrupts-extended", 1))), line(0, 0), api.ErrForm)
	refuseRoot(t, "the last one has a line at nobody", towers(most, having()), line(0, 0), api.ErrHandle)
	refuseRoot(t, "the last one has a line at one that is neither", towers(most, handled(most+1)), line(0, 0), api.ErrNone)
	refuseRoot(t, "the last one has a line at a wrong nexus", towers(most, mapped(most+1, 1)), line(0, 0), api.ErrForm)
	refuseRoot(t, "the next one has a wrong line", towers(most, ctrl(most+1, cells("interrupts-extended", 1))), line(0, 0), api.ErrLoop)
}

// Each of the controllers on the way may be as far as a controller may be.
func TestRootOfManyOfBoth(t *testing.T) {
	const most = api.MaxDepth
	var kids []api.Node
	var way []Line
	for i := range uint32(most * most) {
		if i%most < most-1 {
			kids = append(kids, mapped(i+1, i, i+2, i+1))
			continue
		}
		kids = append(kids, ctrl(i+1, cells("interrupts-extended", i+2, i+1)))
		way = append(way, line(i, int(i)))
	}
	last := len(kids) - 1
	kids[last].Props = ctrl(most * most).Props
	expectRoot(t, "of both", rooted(kids...), line(0, 0), way...)
	kids[last] = mapped(most*most, most*most-1, most*most+1, 5)
	refuseRoot(t, "one too many of them", rooted(append(kids, ctrl(most*most+1))...), line(0, 0), api.ErrLoop)
}

func TestLongMaps(t *testing.T) {
	const many = 1 << 18
	var entries []uint32
	for i := range uint32(many) {
		entries = append(entries, i, 1, many-i)
	}
	x := rooted(mapped(9, entries...), ctrl(1))
	for _, i := range []uint32{0, 1, many - 1} {
		expectThrough(t, "long", x, line(i, 0), line(many-i, 1))
	}
	refuseBoth(t, "long", x, line(many, 0), api.ErrNone)
}

// Lines that nobody asks for are not made: all of them, each with its place, would be far greater than the tree.
func TestRootOfManyDeepLines(t *testing.T) {
	const nodes, many = 1 << 16, 1 << 16
	numbers := make([]uint32, many)
	x := chain(nodes, ctrl(2))
	x.Root.Props = ctrl(1, cells("interrupt-parent", 2), cells("interrupts", numbers...)).Props
	refuseRoot(t, "deep", x, line(4), api.ErrDeep)
	expectThrough(t, "deep", x, line(4), line(4))
}
