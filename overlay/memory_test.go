package overlay

import (
	"cmp"
	"runtime"
	"slices"
	"testing"
	"unsafe"

	"arboret/api"
	"arboret/tree"
)

// The tests of this file are R2's and R3's.

// roomy answers n in memory of its own, with spare room behind each list.
func roomy(n api.Node) api.Node {
	c := api.Node{Name: n.Name, Props: make([]api.Prop, 0, len(n.Props)+2), Kids: make([]api.Node, 0, len(n.Kids)+2)}
	for _, p := range n.Props {
		value := append(make([]byte, 0, len(p.Value)+16), p.Value...)
		c.Props = append(c.Props, val(p.Name, value))
	}
	for _, kid := range n.Kids {
		c.Kids = append(c.Kids, roomy(kid))
	}
	return c
}

func roomyTree(t api.Tree) api.Tree {
	return api.Tree{Boot: t.Boot, Reserves: append(make([]api.Reserve, 0, len(t.Reserves)+2), t.Reserves...), Root: roomy(t.Root)}
}

// whole answers all of n in memory of its own, as far as its lists' room goes.
func whole(n api.Node) api.Node {
	c := api.Node{Name: n.Name}
	for _, p := range n.Props[:cap(n.Props)] {
		c.Props = append(c.Props, val(p.Name, slices.Clone(p.Value[:cap(p.Value)])))
	}
	for _, kid := range n.Kids[:cap(n.Kids)] {
		c.Kids = append(c.Kids, whole(kid))
	}
	return c
}

func wholeTree(t api.Tree) api.Tree {
	return api.Tree{Boot: t.Boot, Reserves: slices.Clone(t.Reserves[:cap(t.Reserves)]), Root: whole(t.Root)}
}

// span is where a list's memory lies, spare room too.
type span struct{ from, to uintptr }

func spanOf[T any](l []T) span {
	var x T
	from := uintptr(unsafe.Pointer(unsafe.SliceData(l)))
	return span{from, from + uintptr(cap(l))*unsafe.Sizeof(x)}
}

func spans(n api.Node) []span {
	l := []span{spanOf(n.Props), spanOf(n.Kids)}
	for _, p := range n.Props {
		l = append(l, spanOf(p.Value))
	}
	for _, kid := range n.Kids {
		l = append(l, spans(kid)...)
	}
	return l
}

// shares answers whether two of the lists of these trees share memory.
func shares(l ...api.Tree) bool {
	var all []span
	for _, t := range l {
		all = append(append(all, spanOf(t.Reserves)), spans(t.Root)...)
	}
	all = slices.DeleteFunc(all, func(s span) bool { return s.from == s.to })
	slices.SortFunc(all, func(a, b span) int { return cmp.Compare(a.from, b.from) })
	for i := range all[1:] {
		if all[i].to > all[i+1].from {
			return true
		}
	}
	runtime.KeepAlive(l)
	return false
}

type memoryCall struct {
	what       string
	base, over api.Tree
	ask        func(base, over api.Tree) answer
	want       api.Errno
}

// memoryCalls answers calls of all ways through; each call's is of memory of its own.
func memoryCalls() []memoryCall {
	over := rooted(
		node("f", props(cells("target", 0xffffffff)), laid(props(cells("phandle", 6), cells("to", 6, 0)), node("new", props(texts("a", "b"))))),
		toPath("g", "/soc/uart@1", props(texts("status", "okay"))), toPath("h", "/", nil, node("soc", nil, node("uart@1", props(texts("x", "y"))))),
		node("__fixups__", props(texts("s", "/f:target:0"), texts("u", "/f/__overlay__:to:4"))),
		node("__local_fixups__", nil, node("f", nil, node("__overlay__", props(cells("to", 0))))),
	)
	over.Reserves = []api.Reserve{{At: 8, Size: 9}}
	late := tree.Clone(over)
	late.Root.Kids = append(late.Root.Kids, toPath("i", "/none", nil))
	apply := func(base, over api.Tree) answer { return of(Apply(base, over)) }
	all := func(base, over api.Tree) answer { return of(ApplyAll(base, []api.Tree{over, over})) }
	shift := func(_, over api.Tree) answer { return of(Shift(over, 100)) }
	fix := func(base, over api.Tree) answer { return of(Fix(base, over)) }
	var l []memoryCall
	for _, c := range []memoryCall{
		{"Apply", machine(), over, apply, api.OK},
		{"Apply of nothing", machine(), rooted(), apply, api.OK},
		{"Apply, and a target that isn't there", machine(), late, apply, api.ErrFixup},
		{"Apply, and a handle twice", machine(), twice(), apply, api.ErrTwice},
		{"ApplyAll", machine(), over, all, api.OK},
		{"ApplyAll of none", machine(), rooted(), func(base, _ api.Tree) answer { return of(ApplyAll(base, nil)) }, api.OK},
		{"ApplyAll, and an error", machine(), late, all, api.ErrFixup},
		{"Shift", machine(), over, shift, api.OK},
		{"Shift of nothing", machine(), machine(), shift, api.OK},
		{"Shift, and an error", machine(), local(props(cells("r", 4, 8))), shift, api.ErrFixup},
		{"Fix", machine(), over, fix, api.OK},
		{"Fix of nothing", machine(), machine(), fix, api.OK},
		{"Fix, and an error", machine(), fixed(1, 2, 3, texts("u", "/:r:4", "none")), fix, api.ErrFixup},
	} {
		c.base, c.over = roomyTree(c.base), roomyTree(c.over)
		l = append(l, c)
	}
	return l
}

func TestWhatIsHandedInIsLeftAndNotKept(t *testing.T) {
	for _, c := range memoryCalls() {
		base, over := wholeTree(c.base), wholeTree(c.over)
		got := c.ask(c.base, c.over)
		if got.e != c.want {
			t.Errorf("%s: %v", c.what, got.e)
		}
		if !tree.Equal(wholeTree(c.base), base) || !tree.Equal(wholeTree(c.over), over) {
			t.Errorf("%s: what was handed in, or its spare room, is changed", c.what)
		}
		if shares(c.base, c.over, got.t) {
			t.Errorf("%s: the answer shares memory", c.what)
		}
	}
}

// What is handed in twice, in one memory, is neither changed nor shared.
func TestOneMemoryHandedInTwice(t *testing.T) {
	both := roomyTree(machine())
	both.Root.Kids = append(both.Root.Kids, toPath("f", "/soc", nil), node("__fixups__", props(texts("u", "/soc:phandle:0"))))
	was := wholeTree(both)
	for _, f := range []func() (api.Tree, api.Errno){
		func() (api.Tree, api.Errno) { return Apply(both, both) },
		func() (api.Tree, api.Errno) { return ApplyAll(both, []api.Tree{both, both}) },
		func() (api.Tree, api.Errno) { return Fix(both, both) },
	} {
		got, e := f()
		if e != api.OK || shares(both, got) || !tree.Equal(wholeTree(both), was) {
			t.Errorf("%v, %v", got, e)
		}
	}
	// Both nodes that the overlay brings have one memory.
	l := props(cells("x", 1))
	n := []api.Node{node("n", l)}
	over := rooted(toPath("f", "/soc", l, n...), toPath("g", "/", l, n...), node("__fixups__", props(texts("u", "/f/__overlay__/n:x:0"))))
	got, e := Apply(machine(), over)
	want := changed(func(r *api.Node) {
		soc(r).Props, soc(r).Kids = append(soc(r).Props, l...), append(soc(r).Kids, node("n", props(cells("x", 3))))
		r.Props, r.Kids = append(r.Props, l...), append(r.Kids, n...)
	})
	if e != api.OK || !tree.Equal(got, want) || shares(got) {
		t.Errorf("%v, %v", got, e)
	}
}

func TestAnswersHangOnTheArgumentsAlone(t *testing.T) {
	l := memoryCalls()
	var want []answer
	for _, c := range l {
		want = append(want, c.ask(c.base, c.over))
	}
	for range 3 {
		for i, c := range slices.Backward(l) {
			if got := c.ask(c.base, c.over); got.e != want[i].e || !tree.Equal(got.t, want[i].t) {
				t.Errorf("%s: %v, then %v", c.what, want[i], got)
			}
		}
	}
}
