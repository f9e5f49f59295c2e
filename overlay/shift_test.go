package overlay

import (
	"strconv"
	"testing"

	"arboret/api"
)

// The tests of this file are P11.1's, of Shift.

// local answers an overlay with those local fixups; its cells are 16, 32 and 48.
func local(l []api.Prop, kids ...api.Node) api.Tree {
	return shifted(16, 32, 48, l, kids...)
}

// shifted answers it with those cells.
func shifted(a, b, c uint32, l []api.Prop, kids ...api.Node) api.Tree {
	return api.Tree{Boot: 3, Reserves: []api.Reserve{{At: 4, Size: 5}}, Root: node("", props(cells("r", 7, a)),
		node("k@1", props(cells("a", b), val("b", append([]byte{0xff}, cells("", c).Value...)))),
		node("k", nil, node("l", props(val("odd", []byte{0, 0, 0})))),
		node("__local_fixups__", l, kids...),
	)}
}

func TestHandlesAreShifted(t *testing.T) {
	over := func(a, b, c, d uint32) api.Tree {
		return api.Tree{Boot: 3, Reserves: []api.Reserve{{At: 4, Size: 5}}, Root: node("", props(cells("x", 1), cells("phandle", a)),
			node("k", props(cells("phandle", b), cells("phandle2", 1), cells("linux,phandle", 1)), node("l", nil, node("m", props(cells("phandle", c))))),
			node("__symbols__", props(cells("phandle", d))),
		)}
	}
	for _, by := range []uint32{0, 1, 16, 255, 1 << 31, api.MaxHandle - 300} {
		of(Shift(over(1, 300, 2, 256), by)).expect(t, "by "+strconv.Itoa(int(by)), over(1+by, 300+by, 2+by, 256+by))
	}
	// No two of them, of what they are, and of what they come to, are held against each other.
	of(Shift(over(1, 2, 3, 4), 1)).expect(t, "one behind the other", over(2, 3, 4, 5))
	of(Shift(over(4, 3, 2, 1), 1)).expect(t, "one behind the other, the other way", over(5, 4, 3, 2))
	of(Shift(over(1, 300, 2, 256), api.MaxHandle-299)).refuse(t, "one that would be too great", api.ErrHandle)
	of(Shift(over(1, 2, 3, 4), 0xffffffff)).refuse(t, "all too great", api.ErrHandle)
	of(Shift(over(api.MaxHandle, 2, 3, 4), 0)).expect(t, "the greatest one, by nothing", over(api.MaxHandle, 2, 3, 4))
	of(Shift(over(api.MaxHandle, 2, 3, 4), 1)).refuse(t, "the greatest one", api.ErrHandle)
	// What isn't a handle isn't raised, and can't be too great.
	for _, by := range []uint32{0, 1, api.MaxHandle, 0xffffffff} {
		of(Shift(local(nil), by)).expect(t, "no handles", local(nil))
		of(Shift(api.Tree{}, by)).expect(t, "nothing", api.Tree{})
	}
}

func TestHandlesThatAreNone(t *testing.T) {
	for i, c := range []struct {
		l    []api.Prop
		want api.Errno
	}{
		{props(cells("phandle")), api.ErrForm},
		{props(cells("phandle", 1, 2)), api.ErrForm},
		{props(val("phandle", []byte{1})), api.ErrForm},
		{props(cells("phandle", 0)), api.ErrHandle},
		{props(cells("phandle", 0xffffffff)), api.ErrHandle},
		{props(cells("phandle", 2)), api.ErrTwice},
	} {
		for _, by := range []uint32{0, 5, 0xffffffff} {
			over := rooted(node("a", props(cells("phandle", 2))), node("b", c.l), node("__local_fixups__", props(cells("none", 0))))
			of(Shift(over, by)).refuse(t, "handle "+strconv.Itoa(i), c.want)
		}
	}
}

func TestCellsThatLocalFixupsSay(t *testing.T) {
	k := func(l ...api.Prop) api.Node { return node("k@1", l) }
	for _, c := range []struct {
		what    string
		a, b, c uint32
		l       []api.Prop
		kids    []api.Node
	}{
		{"the root's", 26, 32, 48, props(cells("r", 4)), nil},
		{"a node's", 16, 42, 48, nil, []api.Node{k(cells("a", 0))}},
		{"at no multiple of 4", 16, 32, 58, nil, []api.Node{k(cells("b", 1))}},
		{"all", 26, 42, 58, props(cells("r", 4)), []api.Node{k(cells("b", 1), cells("a", 0))}},
		{"none", 16, 32, 48, props(cells("r")), []api.Node{k(cells("a"), cells("b"))}},
		// Each of several says so.
		{"one twice", 36, 32, 48, props(cells("r", 4, 4)), nil},
		{"one in two nodes of a name", 16, 52, 48, nil, []api.Node{k(cells("a", 0)), k(cells("a", 0))}},
		// What has no properties says nothing, so that nothing of it need be there.
		{"nodes without properties", 16, 42, 48, nil, []api.Node{k(cells("a", 0)), node("none", nil, node("k", nil)), node("", nil)}},
	} {
		want := shifted(c.a, c.b, c.c, c.l, c.kids...)
		of(Shift(local(c.l, c.kids...), 10)).expect(t, c.what, want)
		of(Shift(local(c.l, c.kids...), 0)).expect(t, c.what+", by nothing", local(c.l, c.kids...))
	}
	// Two places may lie over each other: one cell is raised, then the other.
	over, want := local(props(cells("r", 2, 0))), local(props(cells("r", 2, 0)))
	want.Root.Props[0].Value = []byte{0, 0x10, 0, 0x17, 0, 0, 0, 16}
	of(Shift(over, 1<<20)).expect(t, "two places over each other", want)
}

func TestLocalFixupsOfWhatIsNotThere(t *testing.T) {
	k := func(l ...api.Prop) api.Node { return node("k@1", l) }
	for _, c := range []struct {
		what string
		l    []api.Prop
		kids []api.Node
	}{
		{"no cells", props(val("r", []byte{0, 0, 0, 4, 0})), nil},
		{"a text", props(texts("r", "/k@1")), nil},
		{"no such property", props(cells("a", 0)), nil},
		{"no such property, and no cells", props(cells("a")), nil},
		{"no such property of a node", nil, []api.Node{k(cells("r", 0))}},
		{"no such node", nil, []api.Node{node("none", props(cells("a", 0)))}},
		{"no such node, and no cells", nil, []api.Node{node("none", props(cells("a")))}},
		{"no such node below one", nil, []api.Node{node("k@1", nil, node("k@1", props(cells("a", 0))))}},
		{"a name without its unit", nil, []api.Node{node("k", props(cells("a", 0)))}},
		{"a name with a unit that it doesn't have", nil, []api.Node{node("k@2", props(cells("a", 0)))}},
		{"a node somewhere else", nil, []api.Node{node("l", props(cells("odd", 0)))}},
		{"the last three bytes", props(cells("r", 5)), nil},
		{"at the end", props(cells("r", 8)), nil},
		{"behind the end", props(cells("r", 9)), nil},
		{"far behind it", props(cells("r", 0xffffffff)), nil},
		{"as far as what would wrap round", props(cells("r", 0xfffffffc)), nil},
		{"the second one", props(cells("r", 4, 8)), nil},
		{"the second property", nil, []api.Node{k(cells("a", 0), cells("b", 2))}},
		{"too few bytes", nil, []api.Node{node("k", nil, node("l", props(cells("odd", 0))))}},
		{"the second node", nil, []api.Node{k(cells("a", 0)), node("none", props(cells("a", 0)))}},
		{"phandle, which is no handle there", nil, []api.Node{k(cells("phandle", 1))}},
	} {
		for _, by := range []uint32{0, 10, 0xffffff00} {
			of(Shift(local(c.l, c.kids...), by)).refuse(t, c.what, api.ErrFixup)
		}
	}
}

func TestCellsThatWouldBeTooGreat(t *testing.T) {
	k := func(l ...api.Prop) api.Node { return node("k@1", l) }
	of(Shift(local(props(cells("r", 4))), api.MaxHandle-16)).expect(t, "just MaxHandle", shifted(api.MaxHandle, 32, 48, props(cells("r", 4))))
	of(Shift(local(props(cells("r", 4))), api.MaxHandle-15)).refuse(t, "one more", api.ErrHandle)
	of(Shift(local(props(cells("r", 4))), 0xffffffff)).refuse(t, "as much as it would wrap round", api.ErrHandle)
	of(Shift(shifted(0xffffffff, 0, 0, props(cells("r", 4))), 0)).refuse(t, "one that is too great as it is", api.ErrHandle)
	of(Shift(shifted(0xffffffff, 0, 0, props(cells("r", 0))), 0)).expect(t, "one that isn't meant", shifted(0xffffffff, 0, 0, props(cells("r", 0))))
	of(Shift(shifted(0, 0, 0, props(cells("r", 4))), 0)).expect(t, "a nought", shifted(0, 0, 0, props(cells("r", 4))))
	// 7 and 16 lie in r.
	of(Shift(local(props(cells("r", 4, 0))), api.MaxHandle-10)).refuse(t, "the first one", api.ErrHandle)
	of(Shift(local(props(cells("r", 0, 4))), api.MaxHandle-10)).refuse(t, "the second one", api.ErrHandle)
	of(Shift(local(props(cells("r", 4, 4))), api.MaxHandle-30)).refuse(t, "one twice", api.ErrHandle)
	// Of several that are wrong the first one is told; a node is ahead of those below it.
	by := uint32(api.MaxHandle - 10)
	of(Shift(local(props(cells("r", 4, 8))), by)).refuse(t, "ahead of a place that isn't there", api.ErrHandle)
	of(Shift(local(props(cells("r", 8, 4))), by)).refuse(t, "behind a place that isn't there", api.ErrFixup)
	of(Shift(local(props(cells("r", 4), cells("none", 0))), by)).refuse(t, "ahead of a property that isn't there", api.ErrHandle)
	of(Shift(local(props(cells("none", 0), cells("r", 4))), by)).refuse(t, "behind a property that isn't there", api.ErrFixup)
	of(Shift(local(props(val("r", append(cells("", 4).Value, 0)))), by)).refuse(t, "in what isn't cells", api.ErrFixup)
	none := node("none", props(cells("a", 0)))
	of(Shift(local(nil, k(cells("a", 0)), none), by)).refuse(t, "ahead of a node that isn't there", api.ErrHandle)
	of(Shift(local(nil, none, k(cells("a", 0))), by)).refuse(t, "behind a node that isn't there", api.ErrFixup)
	of(Shift(local(props(cells("r", 4)), none), by)).refuse(t, "above a node that isn't there", api.ErrHandle)
	of(Shift(local(props(cells("none", 4)), k(cells("a", 0))), by)).refuse(t, "below a node without the property", api.ErrFixup)
	below := node("k", nil, node("l", props(cells("odd", 0))))
	of(Shift(local(nil, below, k(cells("a", 0))), by)).refuse(t, "behind what is below a node ahead", api.ErrFixup)
	// Handles are asked ahead of local fixups.
	over := local(props(cells("none", 0)))
	over.Root.Props = append(over.Root.Props, cells("phandle", 11))
	of(Shift(over, by)).refuse(t, "a handle", api.ErrHandle)
	of(Shift(over, by-1)).refuse(t, "no handle", api.ErrFixup)
}

func TestHandlesAndCellsAreShifted(t *testing.T) {
	over := func(h, c uint32) api.Tree {
		return rooted(
			node("f", props(cells("phandle", h)), laid(props(cells("to", c, 4)))),
			node("__local_fixups__", nil, node("f", nil, node("__overlay__", props(cells("to", 0))))),
			// A node of that name that doesn't stand right below the root says nothing, nor does a second one.
			node("x", props(cells("f", 1)), node("__local_fixups__", props(cells("f", 0)))),
			node("__local_fixups__", props(cells("none", 0))),
			node("__local_fixups", props(cells("none", 0))), node("__local_fixups__@1", props(cells("none", 0))),
		)
	}
	of(Shift(over(4, 4), 5)).expect(t, "a handle, and a cell that is it", over(9, 9))
	of(Shift(over(4, 0), 5)).expect(t, "a handle, and another cell", over(9, 5))
}

// Local fixups may mean cells of theirs, and of fixups; what is said is what they say as they are handed in.
func TestLocalFixupsThatMeanLocalFixups(t *testing.T) {
	own := func(at uint32) api.Node { return node("__local_fixups__", nil, node("k", props(cells("a", at)))) }
	over := func(a, b uint32, at uint32) api.Tree {
		return rooted(node("k", props(cells("a", a, b))), node("__local_fixups__", nil, own(0), node("k", props(cells("a", at)))))
	}
	of(Shift(over(10, 20, 0), 4)).expect(t, "local fixups", over(14, 20, 4))
	of(Shift(over(10, 20, 4), 4)).expect(t, "local fixups, the second place", over(10, 24, 8))
}
