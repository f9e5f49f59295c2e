package valid

import (
	"slices"
	"testing"

	"arboret/api"
	"arboret/prop"
)

// The tests of this file are P15.1's. What stands ahead of them is for all files.

func val(name string, value []byte) api.Prop { return api.Prop{Name: name, Value: value} }

func cells(name string, l ...uint32) api.Prop { return val(name, prop.FromCells(l...)) }

func texts(name string, l ...string) api.Prop { return val(name, prop.FromTexts(l...)) }

func node(name string, props ...api.Prop) api.Node { return api.Node{Name: name, Props: props} }

func with(n api.Node, kids ...api.Node) api.Node {
	n.Kids = append(slices.Clone(n.Kids), kids...)
	return n
}

// set answers n with those properties, each where it stands, or behind the others.
func set(n api.Node, props ...api.Prop) api.Node {
	n.Props = slices.Clone(n.Props)
	for _, p := range props {
		i := slices.IndexFunc(n.Props, func(own api.Prop) bool { return own.Name == p.Name })
		if i < 0 {
			n.Props = append(n.Props, p)
		} else {
			n.Props[i] = p
		}
	}
	return n
}

// drop answers n without the property.
func drop(n api.Node, name string) api.Node {
	n.Props = slices.DeleteFunc(slices.Clone(n.Props), func(p api.Prop) bool { return p.Name == name })
	return n
}

// rooted is a tree of one cell an address, and one a size.
func rooted(kids ...api.Node) api.Tree {
	return api.Tree{Root: with(node("", cells("#address-cells", 1), cells("#size-cells", 1)), kids...)}
}

// bridge is a bus of such cells, with those ranges.
func bridge(name string, ranges []uint32, kids ...api.Node) api.Node {
	return with(node(name, texts("compatible", "simple-bus"), cells("ranges", ranges...), cells("#address-cells", 1), cells("#size-cells", 1)), kids...)
}

func span(below, above, size uint32) []uint32 { return []uint32{below, above, size} }

func device(name, kind string, at, size uint32, more ...api.Prop) api.Node {
	return set(node(name, texts("compatible", "x,"+kind, "arbor,"+kind), cells("reg", at, size)), more...)
}

// ctrl is a ctrl with that handle.
func ctrl(name string, at, handle uint32, more ...api.Prop) api.Node {
	return set(device(name, "ctrl", at, 16, val("interrupt-controller", nil), cells("#interrupt-cells", 1), cells("phandle", handle)), more...)
}

// to is a property that says lines: pairs of a handle and a line.
func to(pairs ...uint32) api.Prop { return cells("interrupts-extended", pairs...) }

func off(n api.Node) api.Node { return set(n, texts("status", "disabled")) }

func at(place ...int) []int { return place }

func expectOf(t *testing.T, what string, x api.Tree, place []int, want Kind, wrong api.Errno) {
	t.Helper()
	if k, e := Of(x, place); k != want || e != wrong {
		t.Errorf("%s: Of = %v, %v, not %v, %v", what, k, e, want, wrong)
	}
}

func expectOn(t *testing.T, what string, x api.Tree, place []int, want bool, wrong api.Errno) {
	t.Helper()
	if on, e := Enabled(x, place); on != want || e != wrong {
		t.Errorf("%s: Enabled = %v, %v, not %v, %v", what, on, e, want, wrong)
	}
}

func TestKinds(t *testing.T) {
	if l := []Kind{None, Bus, RAM, UART, Clock, GPIO, RTC, Ctrl}; !slices.Equal(l, []Kind{0, 1, 2, 3, 4, 5, 6, 7}) {
		t.Error(l)
	}
	for what, want := range map[string]struct {
		kind Kind
		size uint64
	}{
		"simple-bus": {Bus, 0}, "arbor,ram": {RAM, 0}, "arbor,uart": {UART, 16}, "arbor,clock": {Clock, 16},
		"arbor,gpio": {GPIO, 32}, "arbor,rtc": {RTC, 16}, "arbor,ctrl": {Ctrl, 16},
	} {
		if k := Known(what); k != want.kind || Size(k) != want.size {
			t.Errorf("Known(%q) = %v, and its Size %d, not %v", what, k, Size(k), want)
		}
	}
	for _, what := range []string{
		"", "arbor", "arbor,", "ram", ",ram", "arbor,Ram", "ARBOR,RAM", "arbor,ram ", " arbor,ram", "arbor,ram\x00", "arbor.ram", "arbor,ra", "arbor,rams",
		"arbor,simple-bus", "simple-bus\x00arbor,ram", "simple_bus", "bus", "arbor,none", "arbor,bus", "none", "\xff", "x,uart",
	} {
		if k := Known(what); k != None {
			t.Errorf("Known(%q) = %v", what, k)
		}
	}
	for _, k := range []Kind{None, Bus, RAM, -1, 8, 1 << 62, -1 << 63} {
		if n := Size(k); n != 0 {
			t.Errorf("Size(%d) = %d", k, n)
		}
	}
}

func TestOf(t *testing.T) {
	is := func(l ...string) api.Node { return node("n", texts("compatible", l...)) }
	for _, c := range []struct {
		what string
		n    api.Node
		want Kind
		e    api.Errno
	}{
		{"without properties", node("n"), None, api.OK},
		{"without compatible", node("simple-bus", texts("status", "arbor,ram"), texts("Compatible", "arbor,ram")), None, api.OK},
		{"no texts", is(), None, api.OK},
		{"no value", node("n", val("compatible", nil)), None, api.OK},
		{"an empty text", is(""), None, api.OK},
		{"unknown ones", is("x,ram", "ram"), None, api.OK},
		{"a bus", is("simple-bus"), Bus, api.OK},
		{"a device", is("arbor,rtc"), RTC, api.OK},
		{"behind others", is("x,y", "", "arbor,gpio"), GPIO, api.OK},
		{"ahead of others", is("arbor,uart", "x,y", ""), UART, api.OK},
		{"the first one of two", is("arbor,uart", "arbor,ram"), UART, api.OK},
		{"the first one of two, the other way round", is("x", "arbor,ram", "arbor,uart"), RAM, api.OK},
		{"a bus ahead of a device", is("simple-bus", "arbor,ctrl"), Bus, api.OK},
		{"a device ahead of a bus", is("arbor,ctrl", "simple-bus"), Ctrl, api.OK},
		{"of two properties the first one", node("n", texts("compatible", "arbor,clock"), val("compatible", []byte("x"))), Clock, api.OK},
		{"without a nought", node("n", val("compatible", []byte("arbor,ram"))), None, api.ErrForm},
		{"with a text without a nought", node("n", val("compatible", []byte("arbor,ram\x00x"))), None, api.ErrForm},
		{"disabled", off(is("arbor,clock")), Clock, api.OK},
		{"with a status that is no text", set(is("arbor,clock"), val("status", nil)), Clock, api.OK},
	} {
		x := rooted(off(with(is("arbor,ram"), node("n"), c.n)))
		expectOf(t, c.what, x, at(0, 1), c.want, c.e)
		expectOf(t, c.what+": the one above", x, at(0), RAM, api.OK)
		c.n.Name = ""
		expectOf(t, c.what+": the root", api.Tree{Root: c.n}, nil, c.want, c.e)
	}
}

func TestEnabled(t *testing.T) {
	for _, c := range []struct {
		what string
		l    []api.Prop
		want bool
		e    api.Errno
	}{
		{"no properties", nil, true, api.OK},
		{"no status", []api.Prop{texts("Status", "disabled"), val("compatible", []byte("x"))}, true, api.OK},
		{"okay", []api.Prop{texts("status", "okay")}, true, api.OK},
		{"ok", []api.Prop{texts("x", ""), texts("status", "ok")}, true, api.OK},
		{"disabled", []api.Prop{texts("status", "disabled")}, false, api.OK},
		{"an empty text", []api.Prop{texts("status", "")}, false, api.OK},
		{"great letters", []api.Prop{texts("status", "OK")}, false, api.OK},
		{"less", []api.Prop{texts("status", "o")}, false, api.OK},
		{"between", []api.Prop{texts("status", "oka")}, false, api.OK},
		{"more", []api.Prop{texts("status", "okay ")}, false, api.OK},
		{"the first one of two", []api.Prop{texts("status", "fail"), texts("status", "ok")}, false, api.OK},
		{"no text", []api.Prop{texts("status")}, false, api.ErrForm},
		{"no value", []api.Prop{val("status", nil)}, false, api.ErrForm},
		{"no nought", []api.Prop{val("status", []byte("okay"))}, false, api.ErrForm},
		{"two texts", []api.Prop{texts("status", "okay", "okay")}, false, api.ErrForm},
	} {
		x := rooted(node("n"), with(node("n", c.l...), node("n", texts("status", "okay")), off(with(node("n"), node("n")))))
		expectOn(t, c.what, x, at(1), c.want, c.e)
		expectOn(t, c.what+": one below", x, at(1, 0), c.want, c.e)
		expectOn(t, c.what+": one below that isn't", x, at(1, 1), false, c.e)
		expectOn(t, c.what+": one below one that isn't", x, at(1, 1, 0), false, c.e)
		expectOn(t, c.what+": the one ahead", x, at(0), true, api.OK)
		expectOn(t, c.what+": the one above", x, nil, true, api.OK)
		x = api.Tree{Root: with(node("", c.l...), x.Root.Kids...)}
		expectOn(t, c.what+": the root", x, nil, c.want, c.e)
		expectOn(t, c.what+": right below the root", x, at(0), c.want, c.e)
		// What is wrong is told, whoever above isn't enabled.
		x.Root = off(x.Root)
		expectOn(t, c.what+": below a root that isn't", x, at(1, 0), false, c.e)
	}
}

func TestNoNode(t *testing.T) {
	bad := node("n", val("compatible", []byte("x")), val("status", nil))
	x := api.Tree{Root: with(bad, with(bad, bad), bad)}
	for _, place := range [][]int{at(2), at(-1), at(1, 0), at(0, 1), at(0, 0, 0), at(0, -1), at(1 << 62), at(-1 << 63), make([]int, api.MaxDepth)} {
		expectOf(t, "no node", x, place, None, api.ErrNone)
		expectOn(t, "no node", x, place, false, api.ErrNone)
		expectOf(t, "no tree", api.Tree{}, place, None, api.ErrNone)
		expectOn(t, "no tree", api.Tree{}, place, false, api.ErrNone)
	}
	for _, place := range [][]int{make([]int, api.MaxDepth+1), make([]int, 1<<16), append(at(-1), make([]int, api.MaxDepth)...)} {
		expectOf(t, "too deep", x, place, None, api.ErrDeep)
		expectOn(t, "too deep", x, place, false, api.ErrDeep)
	}
	expectOf(t, "no tree", api.Tree{}, nil, None, api.OK)
	expectOn(t, "no tree", api.Tree{}, nil, true, api.OK)
}

// chain is a tree that goes so many levels down below the root.
func chain(levels int, last api.Node) api.Tree {
	n := last
	for range levels - 1 {
		n = with(node("n"), n)
	}
	return api.Tree{Root: with(node(""), n)}
}

func TestDeepNodes(t *testing.T) {
	for _, levels := range []int{api.MaxDepth - 1, api.MaxDepth} {
		x := chain(levels, off(node("n", texts("compatible", "arbor,ram"))))
		expectOf(t, "the deepest one", x, make([]int, levels), RAM, api.OK)
		expectOn(t, "the deepest one", x, make([]int, levels), false, api.OK)
		expectOn(t, "the one above", x, make([]int, levels-1), true, api.OK)
	}
	deep := chain(1<<16, node("n"))
	expectOf(t, "above many", deep, nil, None, api.OK)
	expectOn(t, "above many", deep, make([]int, api.MaxDepth), true, api.OK)
}
