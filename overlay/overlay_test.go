package overlay

import (
	"fmt"
	"slices"
	"strconv"
	"strings"
	"testing"

	"arboret/api"
	"arboret/prop"
	"arboret/tree"
)

// The tests of this file are P11.2's, and, of Apply and ApplyAll, the rules R1 and R4 to R6's.

func val(name string, value []byte) api.Prop { return api.Prop{Name: name, Value: value} }

func cells(name string, l ...uint32) api.Prop { return val(name, prop.FromCells(l...)) }

func texts(name string, l ...string) api.Prop { return val(name, prop.FromTexts(l...)) }

func props(l ...api.Prop) []api.Prop { return l }

func node(name string, props []api.Prop, kids ...api.Node) api.Node {
	return api.Node{Name: name, Props: props, Kids: kids}
}

func rooted(kids ...api.Node) api.Tree { return api.Tree{Root: node("", nil, kids...)} }

// machine answers a base, whose greatest handle is 9; each call's is of memory of its own.
func machine() api.Tree {
	soc := node("soc", props(cells("phandle", 5), texts("compatible", "bus")),
		node("uart@1", props(texts("status", "disabled"), cells("phandle", 3))),
		node("uart@2", nil),
		node("gpio@3", props(cells("phandle", 9)), node("pin", nil)),
	)
	root := node("", props(texts("model", "m")), soc,
		node("aliases", props(texts("ser", "/soc/uart@1"))),
		node("__symbols__", props(texts("u", "/soc/uart@1"), texts("g", "/soc/gpio@3"), texts("s", "/soc"))),
	)
	return api.Tree{Boot: 7, Reserves: []api.Reserve{{At: 1, Size: 2}}, Root: root}
}

// changed answers machine with what f makes of its root.
func changed(f func(root *api.Node)) api.Tree {
	t := machine()
	f(&t.Root)
	return t
}

func soc(root *api.Node) *api.Node { return &root.Kids[0] }

func uart(root *api.Node) *api.Node { return &root.Kids[0].Kids[0] }

func gpio(root *api.Node) *api.Node { return &root.Kids[0].Kids[2] }

// added answers machine with something new behind all that the node has.
func added(at func(*api.Node) *api.Node, l []api.Prop, kids ...api.Node) api.Tree {
	return changed(func(root *api.Node) {
		n := at(root)
		n.Props, n.Kids = append(n.Props, l...), append(n.Kids, kids...)
	})
}

// laid answers a fragment's piece.
func laid(l []api.Prop, kids ...api.Node) api.Node { return node("__overlay__", l, kids...) }

func toHandle(h uint32, l []api.Prop, kids ...api.Node) api.Node {
	return node("h"+strconv.Itoa(int(h)), props(cells("target", h)), laid(l, kids...))
}

// toPath answers a fragment of that name whose target is at that path.
func toPath(name, path string, l []api.Prop, kids ...api.Node) api.Node {
	return node(name, props(texts("target-path", path)), laid(l, kids...))
}

// short answers the beginning of what t says, as some trees are great.
func short(t api.Tree) string {
	s := fmt.Sprint(t)
	return s[:min(len(s), 600)]
}

type answer struct {
	t api.Tree
	e api.Errno
}

func of(t api.Tree, e api.Errno) answer { return answer{t, e} }

func (got answer) expect(t *testing.T, what string, want api.Tree) {
	t.Helper()
	if got.e != api.OK || !tree.Equal(got.t, want) {
		t.Errorf("%s: %v\n%s, not\n%s", what, got.e, short(got.t), short(want))
	}
}

func (got answer) refuse(t *testing.T, what string, want api.Errno) {
	t.Helper()
	if got.e != want || !tree.Equal(got.t, api.Tree{}) {
		t.Errorf("%s: %v, %s, not %v", what, got.e, short(got.t), want)
	}
}

func TestFragmentsAreLaidOverTheirTargets(t *testing.T) {
	x, pin := props(cells("x", 1)), node("pin", props(cells("y", 2)))
	for _, c := range []struct {
		what     string
		fragment api.Node
		want     api.Tree
	}{
		{"a handle", toHandle(3, x), added(uart, x)},
		{"a handle, the greatest one", toHandle(9, x, pin), changed(func(r *api.Node) { gpio(r).Props = append(gpio(r).Props, x...); gpio(r).Kids[0] = pin })},
		{"a path", toPath("f", "/soc/uart@1", x), added(uart, x)},
		{"the root's path", toPath("f", "/", x, node("k", nil)), added(func(r *api.Node) *api.Node { return r }, x, node("k", nil))},
		{"an alias", toPath("f", "ser", x), added(uart, x)},
		{"a path without units", toPath("f", "/soc/gpio", x), added(gpio, x)},
		{"a path beyond an alias", toPath("f", "ser/", nil), api.Tree{}},
		{"a value that is there", toHandle(3, props(texts("status", "okay"))), changed(func(r *api.Node) { uart(r).Props[0] = texts("status", "okay") })},
		{"no value", toHandle(3, props(val("status", nil))), changed(func(r *api.Node) { uart(r).Props[0].Value = nil })},
		{"a new node", toHandle(5, nil, node("rtc@4", x, pin)), added(soc, nil, node("rtc@4", x, pin))},
		{"a new node whose name is another one's without its unit", toHandle(5, nil, node("gpio", x)), added(soc, nil, node("gpio", x))},
		{"nodes that are there", toHandle(5, nil, node("gpio@3", x), node("uart@1", x)), changed(func(r *api.Node) {
			uart(r).Props, gpio(r).Props = append(uart(r).Props, x...), append(gpio(r).Props, x...)
		})},
		{"a piece of nothing", toHandle(5, nil), machine()},
		{"a fragment's name", toPath("Any,name@1", "/soc", x), added(soc, x)},
		{"a fragment named as a piece", toPath("__overlay__", "/soc", x), added(soc, x)},
		{"a fragment's own properties and nodes", node("f", props(cells("z", 1), cells("target", 5)), pin, laid(x), node("g", nil, laid(pin.Props))), added(soc, x)},
		{"a handle, and a path of another one", node("f", props(texts("target-path", "/"), cells("target", 5)), laid(x)), added(soc, x)},
		{"a handle, and a path of none", node("f", props(texts("target-path", "/none"), cells("target", 5)), laid(x)), added(soc, x)},
		{"a piece in a piece", toHandle(5, nil, laid(x)), added(soc, nil, laid(x))},
	} {
		got := of(Apply(machine(), rooted(c.fragment)))
		if c.want.Boot == 0 {
			got.refuse(t, c.what, api.ErrFixup)
			continue
		}
		got.expect(t, c.what, c.want)
	}
}

func TestWhatIsNoFragment(t *testing.T) {
	x := props(cells("x", 1))
	for _, c := range []struct {
		what string
		over api.Tree
	}{
		{"nothing", api.Tree{}},
		{"no lists", api.Tree{Reserves: []api.Reserve{}, Root: api.Node{Props: props(), Kids: []api.Node{}}}},
		{"a tree's own", api.Tree{Boot: 8, Reserves: []api.Reserve{{At: 5, Size: 6}}, Root: node("", x, node("soc", x))}},
		{"no piece", rooted(node("f", props(cells("target", 5), texts("target-path", "/"))))},
		{"no piece, and no target", rooted(node("f", props(cells("target", 77), texts("target-path", "none"))))},
		{"a piece of another name", rooted(node("f", props(cells("target", 5)), node("__overlay__@1", x), node("__overlay", x), node("__Overlay__", x)))},
		{"a piece that is a property", rooted(node("f", props(cells("target", 5), cells("__overlay__", 1))))},
		{"a fragment below another node", rooted(node("f", nil, toHandle(5, x)))},
		{"a piece right below the root", rooted(node("__overlay__", props(cells("target", 5), cells("x", 1))))},
		{"fixups of nothing", rooted(node("__fixups__", nil, node("k", x)), node("__local_fixups__", nil, node("k", nil)), node("__symbols__", x))},
	} {
		of(Apply(machine(), c.over)).expect(t, c.what, machine())
		of(ApplyAll(machine(), []api.Tree{c.over, c.over})).expect(t, c.what, machine())
	}
	of(Apply(api.Tree{}, api.Tree{})).expect(t, "nothing on nothing", api.Tree{})
	of(Apply(api.Tree{}, rooted(toPath("f", "/", x)))).expect(t, "something on nothing", api.Tree{Root: node("", x)})
}

func TestFragmentsWithoutTargets(t *testing.T) {
	long := strings.Repeat("/soc", 400)
	for i, l := range [][]api.Prop{
		nil,
		props(cells("other", 5)),
		// A handle that none has.
		props(cells("target", 1)), props(cells("target", 0)), props(cells("target", 10)), props(cells("target", api.MaxHandle)), props(cells("target", 0xffffffff)),
		// No one cell; the path doesn't stand in for it.
		props(cells("target")), props(cells("target", 5, 5)), props(val("target", []byte{5})), props(texts("target", "/soc")),
		props(cells("target", 5, 5), texts("target-path", "/soc")), props(cells("target"), texts("target-path", "/soc")),
		props(cells("target", 1), texts("target-path", "/soc")),
		// No path, and no text.
		props(texts("target-path", "/none")), props(texts("target-path", "/soc/")), props(texts("target-path", "//soc")), props(texts("target-path", "soc")),
		props(texts("target-path", "/soc/uart")), props(texts("target-path", "")), props(texts("target-path", long)),
		props(texts("target-path")), props(val("target-path", []byte("/soc"))), props(texts("target-path", "/soc", "/soc")), props(val("target-path", nil)),
	} {
		over := rooted(toHandle(3, nil), node("f", l, laid(nil)))
		of(Apply(machine(), over)).refuse(t, "fragment "+strconv.Itoa(i), api.ErrFixup)
	}
	// By their words these are fragments, too.
	for _, s := range []string{"__fixups__", "__symbols__", "__local_fixups__"} {
		of(Apply(machine(), rooted(node(s, nil, laid(nil))))).refuse(t, s, api.ErrFixup)
	}
}

// A fragment's target is asked in the tree as it is when those ahead of it have been laid on.
func TestFragmentsOneByOne(t *testing.T) {
	x, y := props(cells("x", 1)), props(cells("x", 2))
	of(Apply(machine(), rooted(toPath("f", "/soc", x), toHandle(5, y)))).expect(t, "a value twice", added(soc, y))
	of(Apply(machine(), rooted(toHandle(5, y), toPath("f", "/soc", x)))).expect(t, "a value twice, the other way", added(soc, x))

	new := node("new", props(cells("phandle", 2)), node("k", nil))
	want := added(soc, nil, node("new", props(cells("phandle", 11)), node("k", x)))
	of(Apply(machine(), rooted(toHandle(5, nil, new), toPath("f", "/soc/new/k", x)))).expect(t, "a node that is new", want)
	of(Apply(machine(), rooted(toPath("f", "/soc/new/k", x), toHandle(5, nil, new)))).refuse(t, "one that isn't there yet", api.ErrFixup)

	local := func(fragment string) api.Node {
		return node("__local_fixups__", nil, node(fragment, props(cells("target", 0))))
	}
	want = added(soc, nil, node("new", props(cells("phandle", 11), cells("x", 1)), node("k", nil)))
	of(Apply(machine(), rooted(toHandle(5, nil, new), toHandle(2, x), local("h2")))).expect(t, "a handle that is new", want)
	of(Apply(machine(), rooted(toHandle(2, x), toHandle(5, nil, new), local("h2")))).refuse(t, "a handle that isn't there yet", api.ErrFixup)

	over := rooted(toPath("f", "/aliases", props(texts("a", "/soc/gpio@3"), texts("ser", "/soc"))), toPath("g", "a/pin", x), toPath("h", "ser", x))
	of(Apply(machine(), over)).expect(t, "aliases that are new", changed(func(r *api.Node) {
		r.Kids[1].Props = props(texts("ser", "/soc"), texts("a", "/soc/gpio@3"))
		gpio(r).Kids[0].Props = x
		soc(r).Props = append(soc(r).Props, x...)
	}))

	over = rooted(toPath("f", "/soc", nil, node("gpio@4", nil)), toPath("g", "/soc/gpio", x))
	of(Apply(machine(), over)).refuse(t, "a name that could stand for several by then", api.ErrFixup)

	over = rooted(toHandle(3, props(cells("phandle", 4))), toHandle(5, x))
	want = changed(func(r *api.Node) {
		uart(r).Props[1] = cells("phandle", 13)
		soc(r).Props = append(soc(r).Props, x...)
	})
	of(Apply(machine(), over)).expect(t, "another handle of a node", want)
	over.Root.Kids = append(over.Root.Kids, toPath("f", "/", nil), node("late", props(cells("target", 3)), laid(nil)))
	of(Apply(machine(), over)).refuse(t, "a handle that none has any more", api.ErrFixup)
}

// twice answers an overlay that brings a second node with the handle of u.
func twice(more ...api.Node) api.Tree {
	f := toPath("f", "/", nil, node("new", props(cells("phandle", 1))))
	return rooted(append([]api.Node{f, node("__fixups__", props(texts("u", "/f/__overlay__/new:phandle:0")))}, more...)...)
}

func TestWhatComesIsAskedAtLast(t *testing.T) {
	of(Apply(machine(), twice())).refuse(t, "a handle twice", api.ErrTwice)
	of(Apply(machine(), twice(toHandle(5, nil)))).refuse(t, "a handle twice, and a target by handle", api.ErrFixup)
	of(Apply(machine(), twice(toPath("g", "/soc", nil)))).refuse(t, "a handle twice, and a target by path", api.ErrTwice)
	late := rooted(append([]api.Node{toHandle(5, nil)}, twice().Root.Kids...)...)
	of(Apply(machine(), late)).refuse(t, "a handle twice, and a target by handle ahead of it", api.ErrTwice)
	gone := twice(toPath("g", "/soc/uart@1", props(cells("phandle", 6))))
	of(Apply(machine(), gone)).expect(t, "a handle twice, and then not any more", changed(func(r *api.Node) {
		uart(r).Props[1] = cells("phandle", 15)
		r.Kids = append(r.Kids, node("new", props(cells("phandle", 3))))
	}))

	deep := func(levels int) api.Node {
		n := node("d", nil)
		for range levels - 1 {
			n = node("d", nil, n)
		}
		return n
	}
	// The pin's is level 4.
	of(Apply(machine(), rooted(toPath("f", "/soc/gpio/pin", nil, deep(12))))).expect(t, "MaxDepth levels", changed(func(r *api.Node) { gpio(r).Kids[0].Kids = []api.Node{deep(12)} }))
	of(Apply(machine(), rooted(toPath("f", "/soc/gpio/pin", nil, deep(13))))).refuse(t, "one more level", api.ErrDeep)
	// As deep as that it is on the way alone; what is laid on is asked when all of it is.
	stack := rooted(toPath("f", "/soc/gpio/pin", nil, deep(13)), toPath("g", "/soc/gpio/pin"+strings.Repeat("/d", 13), nil, deep(2)), toPath("h", "/none", nil))
	of(Apply(machine(), stack)).refuse(t, "a target below MaxDepth, and none", api.ErrFixup)
	stack.Root.Kids = stack.Root.Kids[:2]
	of(Apply(machine(), stack)).refuse(t, "a target below MaxDepth", api.ErrDeep)

	nodes, _ := tree.Count(machine().Root)
	many := func(n int) []api.Node {
		var l []api.Node
		for i := range n {
			l = append(l, node("n"+strconv.Itoa(i), nil))
		}
		return l
	}
	room := api.MaxNodes - nodes
	of(Apply(machine(), rooted(toPath("f", "/soc", nil, many(room)...)))).expect(t, "MaxNodes nodes", added(soc, nil, many(room)...))
	of(Apply(machine(), rooted(toPath("f", "/soc", nil, many(room+1)...)))).refuse(t, "one more node", api.ErrMany)
	late = twice()
	late.Root.Kids[0].Kids[0].Kids = append(late.Root.Kids[0].Kids[0].Kids, many(room)...)
	of(Apply(machine(), late)).refuse(t, "one more node, and a handle twice", api.ErrMany)
}

func TestPropertiesThatAreTooMany(t *testing.T) {
	_, n := tree.Count(machine().Root)
	var l []api.Prop
	for i := range api.MaxProps - n + 1 {
		l = append(l, cells("p"+strconv.Itoa(i), uint32(i)))
	}
	of(Apply(machine(), rooted(toPath("f", "/soc", l[1:])))).expect(t, "MaxProps properties", added(soc, l[1:]))
	of(Apply(machine(), rooted(toPath("f", "/soc", l)))).refuse(t, "one more property", api.ErrMany)
}

// What is wrong in several ways answers what the chapter asks first.
func TestWhichErrorOfApply(t *testing.T) {
	unformedBase := changed(func(r *api.Node) { r.Kids[1].Name = "" })
	handlesTwice := changed(func(r *api.Node) { soc(r).Props[0] = cells("phandle", 3) })
	unformed := rooted(node("f", props(cells("a"), cells("a"))))
	wide := rooted(node("f", props(cells("phandle", 1, 2)), laid(nil)))
	great := rooted(node("f", props(cells("phandle", api.MaxHandle))), node("__local_fixups__", props(cells("none", 0))))
	local := rooted(node("f", nil, laid(nil)), node("__local_fixups__", props(cells("none", 0))), node("__fixups__", props(texts("none"))))
	of(Apply(unformedBase, unformed)).refuse(t, "both unformed", api.ErrName)
	of(Apply(machine(), unformed)).refuse(t, "an unformed overlay", api.ErrTwice)
	of(Apply(handlesTwice, rooted(node("", nil)))).refuse(t, "an unformed overlay, and a base with a handle twice", api.ErrName)
	of(Apply(handlesTwice, wide)).refuse(t, "a base with a handle twice, and an overlay with none", api.ErrTwice)
	of(Apply(machine(), wide)).refuse(t, "an overlay with a handle that is none", api.ErrForm)
	of(Apply(machine(), great)).refuse(t, "a handle that would be too great, and local fixups of nothing", api.ErrHandle)
	of(Apply(machine(), local)).refuse(t, "local fixups, fixups and a target of nothing", api.ErrFixup)
	of(Apply(machine(), rooted(node("__fixups__", props(texts("none")))))).refuse(t, "fixups of nothing", api.ErrFixup)
	// Without handles in the base the overlay's stay, and may be the greatest.
	of(Apply(api.Tree{}, rooted(toPath("f", "/", props(cells("phandle", api.MaxHandle)))))).expect(t, "the greatest handle", api.Tree{Root: node("", props(cells("phandle", api.MaxHandle)))})
}

func TestOverlaysOneByOne(t *testing.T) {
	x := props(cells("x", 1))
	first := rooted(toHandle(5, nil, node("new", props(cells("phandle", 2)))), toPath("f", "/__symbols__", props(texts("n", "/soc/new"))))
	second := rooted(
		node("f", props(cells("target", 0xffffffff)), laid(x, node("more", props(cells("phandle", 2), cells("to", 2, 0))))),
		node("__fixups__", props(texts("n", "/f:target:0", "/f/__overlay__/more:to:4"))),
		node("__local_fixups__", nil, node("f", nil, node("__overlay__", nil, node("more", props(cells("to", 0)))))),
	)
	want := changed(func(r *api.Node) {
		more := node("more", props(cells("phandle", 13), cells("to", 13, 11)))
		soc(r).Kids = append(soc(r).Kids, node("new", props(cells("phandle", 11), cells("x", 1)), more))
		r.Kids[2].Props = append(r.Kids[2].Props, texts("n", "/soc/new"))
	})
	of(ApplyAll(machine(), []api.Tree{first, second})).expect(t, "one on the other", want)
	of(ApplyAll(machine(), []api.Tree{second, first})).refuse(t, "the other way", api.ErrFixup)
	of(ApplyAll(machine(), []api.Tree{first, rooted(node("", nil))})).refuse(t, "a second one that is unformed", api.ErrName)
	of(ApplyAll(machine(), []api.Tree{first, twice()})).refuse(t, "a second one with a handle twice", api.ErrTwice)
	of(ApplyAll(machine(), []api.Tree{twice(), first, rooted(node("", nil))})).refuse(t, "the first one's error", api.ErrTwice)

	// Each one's handles are raised by what the greatest one is by then: 9, 11, 13 ..
	grow := func(n int) []api.Tree {
		var l []api.Tree
		for i := range n {
			l = append(l, rooted(toPath("f", "/", nil, node("n"+strconv.Itoa(i), props(cells("phandle", 2))))))
		}
		return l
	}
	want = changed(func(r *api.Node) {
		for i := range uint32(api.MaxOverlays) {
			r.Kids = append(r.Kids, node("n"+strconv.Itoa(int(i)), props(cells("phandle", 11+2*i))))
		}
	})
	of(ApplyAll(machine(), grow(api.MaxOverlays))).expect(t, "MaxOverlays", want)
	of(ApplyAll(machine(), grow(api.MaxOverlays+1))).refuse(t, "one more overlay", api.ErrMany)
}

func TestWhichErrorOfApplyAll(t *testing.T) {
	unformed := rooted(node("", nil))
	handlesTwice := changed(func(r *api.Node) { soc(r).Props[0] = cells("phandle", 3) })
	for _, l := range [][]api.Tree{nil, {}} {
		of(ApplyAll(machine(), l)).expect(t, "none", machine())
		of(ApplyAll(api.Tree{}, l)).expect(t, "none, on nothing", api.Tree{})
		of(ApplyAll(unformed, l)).refuse(t, "none, on one that is unformed", api.ErrName)
		of(ApplyAll(handlesTwice, l)).expect(t, "none, on one with a handle twice", handlesTwice)
	}
	of(ApplyAll(handlesTwice, make([]api.Tree, 1))).refuse(t, "one, on one with a handle twice", api.ErrTwice)
	of(ApplyAll(machine(), make([]api.Tree, api.MaxOverlays))).expect(t, "MaxOverlays of nothing", machine())
	many := slices.Repeat([]api.Tree{unformed}, api.MaxOverlays+1)
	of(ApplyAll(unformed, many)).refuse(t, "too many, and all unformed", api.ErrMany)
	of(ApplyAll(unformed, many[:api.MaxOverlays])).refuse(t, "all unformed", api.ErrName)
}
