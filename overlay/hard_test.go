package overlay

import (
	"math/rand/v2"
	"strconv"
	"strings"
	"testing"

	"arboret/api"
	"arboret/prop"
	"arboret/tree"
)

// The tests of this file are R1's, and of trees that are great, deep or wide.

// chain answers so many levels, of which the lowest one has the properties.
func chain(levels int, l []api.Prop) api.Node {
	n := node("d", l)
	for range levels - 1 {
		n = node("d", nil, n)
	}
	return n
}

func TestDeepTrees(t *testing.T) {
	const levels = 1 << 16
	over := func(h, c uint32) api.Tree {
		l := node("__local_fixups__", nil, chain(levels, props(cells("to", 0))))
		fixups := node("__fixups__", props(texts("s", strings.Repeat("/d", levels)+":to:4")))
		return rooted(chain(levels, props(cells("phandle", h), cells("to", h, c))), l, fixups)
	}
	of(Shift(over(1, 2), 10)).expect(t, "Shift of a deep tree", over(11, 2))
	of(Fix(machine(), over(1, 2))).expect(t, "Fix of a deep tree", over(1, 5))
	of(Shift(over(api.MaxHandle, 2), 1)).refuse(t, "Shift of a deep tree", api.ErrHandle)
	of(Apply(machine(), over(1, 2))).refuse(t, "a deep overlay", api.ErrDeep)
	of(Apply(over(1, 2), rooted())).refuse(t, "a deep base", api.ErrDeep)
	of(ApplyAll(over(1, 2), nil)).refuse(t, "a deep base, and none", api.ErrDeep)
	// A path as long as may be goes deeper than MaxDepth.
	base := rooted(chain(512, props(cells("phandle", 6))), node("__symbols__", props(texts("l", strings.Repeat("/d", 512)), texts("m", strings.Repeat("/d", 513)))))
	of(Fix(base, fixed(1, 2, 4, texts("l", "/:r:4")))).expect(t, "a base that is deep", fixed(6, 2, 4, texts("l", "/:r:4")))
	of(Fix(base, fixed(1, 2, 4, texts("m", "/:r:4")))).refuse(t, "a base that is deep, one deeper", api.ErrFixup)
}

func TestWideTrees(t *testing.T) {
	const many = 1 << 17
	over := func(by, set uint32) api.Tree {
		var x, local []api.Node
		var l []string
		for i := range uint32(many) {
			s := "n" + strconv.Itoa(int(i))
			x = append(x, node(s, props(cells("phandle", i+1+by), cells("to", i+by, set))))
			local = append(local, node(s, props(cells("to", 0))))
			l = append(l, "/k/"+s+":to:4")
		}
		return rooted(node("k", nil, x...), node("__local_fixups__", nil, node("k", nil, local...)), node("__fixups__", props(texts("u", l...))))
	}
	of(Shift(over(0, 0), 10)).expect(t, "Shift of a wide tree", over(10, 0))
	of(Fix(machine(), over(0, 0))).expect(t, "Fix of a wide tree", over(0, 3))
	of(Apply(machine(), over(0, 0))).refuse(t, "a wide overlay", api.ErrMany)
}

func TestLongValues(t *testing.T) {
	const many = 1 << 17
	over := func(by, set uint32) api.Tree {
		var x, places []uint32
		var l []string
		for i := range uint32(many) {
			x, places = append(x, i+by, set), append(places, i*8)
			l = append(l, "/k:to:"+strconv.Itoa(int(i)*8+4))
		}
		return rooted(node("k", props(cells("to", x...))), node("__local_fixups__", nil, node("k", props(cells("to", places...)))), node("__fixups__", props(texts("u", l...))))
	}
	of(Shift(over(0, 0), 10)).expect(t, "Shift of a long value", over(10, 0))
	of(Fix(machine(), over(0, 0))).expect(t, "Fix of a long value", over(0, 3))
	of(Apply(machine(), over(0, 0))).expect(t, "an overlay of long values", machine())
}

func TestManyFragments(t *testing.T) {
	for _, at := range []api.Prop{texts("target-path", "/"), texts("target-path", "/soc/uart"), cells("target", 9)} {
		var over api.Tree
		for i := range api.MaxNodes/2 - 1 {
			over.Root.Kids = append(over.Root.Kids, node("f"+strconv.Itoa(i), props(at), laid(props(cells("x", uint32(i))))))
		}
		base := changed(func(r *api.Node) {
			soc(r).Kids = []api.Node{soc(r).Kids[0], soc(r).Kids[2]}
			for i := range 4000 {
				soc(r).Kids = append(soc(r).Kids, node("n"+strconv.Itoa(i), props(cells("phandle", uint32(100+i)))))
			}
		})
		got, e := Apply(base, over)
		nodes, props := tree.Count(base.Root)
		gotNodes, gotProps := tree.Count(got.Root)
		if e != api.OK || gotNodes != nodes || gotProps != props+1 {
			t.Errorf("%v, %d nodes, %d properties", e, gotNodes, gotProps)
		}
	}
}

// anyNode answers a node that may be anything, formed or not, of names that mean something to this layer.
func anyNode(r *rand.Rand, name string, levels int) api.Node {
	names := []string{"", "a", "a@1", "a/b", "a:b", "__overlay__", "__fixups__", "__local_fixups__", "__symbols__", "aliases", "phandle", "target", "target-path", "u"}
	paths := []string{"/", "/a", "a", "/a/a", "/__overlay__", "/a:u:0", "/:phandle:0", "/__fixups__:u:2", "//a:u:0", ":::", "/a:a:b:u:0", ""}
	n := node(name, nil)
	for range r.IntN(4) {
		value := prop.FromCells([]uint32{r.Uint32N(3), r.Uint32()}[r.IntN(2)])
		switch r.IntN(8) {
		case 0:
			value = nil
		case 1:
			value = value[:r.IntN(5)]
		case 2, 3, 4:
			value = prop.FromTexts(paths[r.IntN(len(paths))])
		}
		n.Props = append(n.Props, val(names[r.IntN(len(names))], value))
	}
	for range r.IntN(4) {
		if levels > 1 {
			n.Kids = append(n.Kids, anyNode(r, names[r.IntN(len(names))], levels-1))
		}
	}
	return n
}

// Of any trees a call answers a tree, or an error and nothing; and what Apply answers is formed.
func TestAnyTrees(t *testing.T) {
	r := rand.New(rand.NewPCG(11, 11))
	seen := make(map[api.Errno]int)
	for range 20000 {
		base, over := api.Tree{Root: anyNode(r, "", 4)}, api.Tree{Root: anyNode(r, "", 4)}
		by := []uint32{0, 1, 1 << 31, 0xffffffff}[r.IntN(4)]
		for _, got := range []answer{
			of(Shift(over, by)), of(Fix(base, over)), of(Apply(base, over)), of(ApplyAll(base, []api.Tree{over, over})), of(ApplyAll(base, nil)),
		} {
			seen[got.e]++
			if got.e != api.OK && !tree.Equal(got.t, api.Tree{}) {
				t.Fatalf("%v beside %v: of %v and %v", got.t, got.e, base, over)
			}
		}
		if got := of(Apply(base, over)); check(got.t) != api.OK {
			t.Fatalf("%v, which isn't formed: of %v and %v", got.t, base, over)
		}
	}
	for _, e := range []api.Errno{api.OK, api.ErrForm, api.ErrName, api.ErrTwice, api.ErrHandle, api.ErrFixup} {
		if seen[e] < 50 {
			t.Errorf("%v came %d times", e, seen[e])
		}
	}
}
