package overlay

import (
	"math/rand/v2"
	"regexp"
	"strconv"
	"strings"
	"testing"

	"arboret/api"
	"arboret/edit"
	"arboret/handle"
	"arboret/path"
	"arboret/prop"
	"arboret/tree"
	"arboret/words"
)

// The tests of this file are P11.3's, that is P2's: random overlays are held against a model, which is another way than
// this package's: it knows nodes by their paths alone, and changes trees by layer 9, a cell or a property at a time.

// places answers the places of all nodes by their paths.
func places(t api.Tree) map[string][]int {
	m := make(map[string][]int)
	for _, place := range path.All(t) {
		s, _ := path.Path(t, place)
		m[s] = place
	}
	return m
}

// modelCell answers t with f's cell in that of the property, f's error, or ErrFixup where there is none.
func modelCell(t api.Tree, full, name string, at int, f func(uint32) (uint32, api.Errno)) (api.Tree, api.Errno) {
	place, ok := places(t)[full]
	if !ok {
		return t, api.ErrFixup
	}
	n, _ := path.Get(t, place)
	value, _ := tree.Find(n, name)
	v, ok := words.Get(value, at)
	if !ok {
		return t, api.ErrFixup
	}
	v, e := f(v)
	if e != api.OK {
		return t, e
	}
	value, _ = words.Cell(value, at, v)
	return edit.Set(t, place, name, value)
}

func modelShift(over api.Tree, by uint32) (api.Tree, api.Errno) {
	refs, e := handle.Index(over)
	if e != api.OK {
		return api.Tree{}, e
	}
	more := func(v uint32) (uint32, api.Errno) {
		if v > api.MaxHandle || by > api.MaxHandle-v {
			return 0, api.ErrHandle
		}
		return v + by, api.OK
	}
	t := over
	for _, r := range refs {
		v, e := more(r.Handle)
		if e != api.OK {
			return api.Tree{}, e
		}
		t, _ = edit.Set(t, r.Place, "phandle", prop.FromCells(v))
	}
	for _, place := range path.All(over) {
		s, _ := path.Path(over, place)
		rest, ok := strings.CutPrefix(s+"/", "/__local_fixups__/")
		if !ok {
			continue
		}
		n, _ := path.Get(over, place)
		for _, p := range n.Props {
			full := "/" + strings.TrimSuffix(rest, "/")
			l, e := prop.Cells(p.Value)
			own, ok := places(over)[full]
			if e != api.OK || !ok {
				return api.Tree{}, api.ErrFixup
			}
			n, _ := path.Get(over, own)
			if _, ok := tree.Find(n, p.Name); !ok {
				return api.Tree{}, api.ErrFixup
			}
			for _, at := range l {
				if t, e = modelCell(t, full, p.Name, int(at), more); e != api.OK {
					return api.Tree{}, e
				}
			}
		}
	}
	return t, api.OK
}

func modelFix(base, over api.Tree) (api.Tree, api.Errno) {
	form := regexp.MustCompile(`^(/|(?:/[^/:]+)+):([^:]+):([0-9]{1,9})$`)
	t := over
	n, e := path.Get(over, places(over)["/__fixups__"])
	if _, ok := places(over)["/__fixups__"]; !ok || e != api.OK {
		return t, api.OK
	}
	for _, p := range n.Props {
		symbols, _ := path.Get(base, places(base)["/__symbols__"])
		if _, ok := places(base)["/__symbols__"]; !ok {
			return api.Tree{}, api.ErrFixup
		}
		value, _ := tree.Find(symbols, p.Name)
		text, e := prop.Text(value)
		if e != api.OK {
			return api.Tree{}, api.ErrFixup
		}
		place, e := path.Find(base, text)
		if e != api.OK {
			return api.Tree{}, api.ErrFixup
		}
		n, _ := path.Get(base, place)
		v, ok, _ := prop.One(n, "phandle")
		l, e := prop.Texts(p.Value)
		if !ok || e != api.OK {
			return api.Tree{}, api.ErrFixup
		}
		for _, s := range l {
			m := form.FindStringSubmatch(s)
			if m == nil {
				return api.Tree{}, api.ErrFixup
			}
			at, _ := strconv.Atoi(m[3])
			t, e = modelCell(t, m[1], m[2], at, func(uint32) (uint32, api.Errno) { return v, api.OK })
			if e != api.OK {
				return api.Tree{}, api.ErrFixup
			}
		}
	}
	return t, api.OK
}

// modelLay lays n over the node of t at the place.
func modelLay(t api.Tree, place []int, n api.Node) api.Tree {
	for _, p := range n.Props {
		t, _ = edit.Set(t, place, p.Name, p.Value)
	}
	for _, kid := range n.Kids {
		at, _ := path.Get(t, place)
		if i := tree.Kid(at, kid.Name); i >= 0 {
			t = modelLay(t, append(place[:len(place):len(place)], i), kid)
		} else {
			t, _ = edit.Add(t, place, kid)
		}
	}
	return t
}

func modelApply(base, over api.Tree) (api.Tree, api.Errno) {
	refs, e := handle.Index(base)
	if e != api.OK {
		return api.Tree{}, e
	}
	var most uint32
	for _, r := range refs {
		most = max(most, r.Handle)
	}
	over, e = modelShift(over, most)
	if e != api.OK {
		return api.Tree{}, e
	}
	over, e = modelFix(base, over)
	if e != api.OK {
		return api.Tree{}, e
	}
	t := base
	for _, f := range over.Root.Kids {
		i := tree.Kid(f, "__overlay__")
		if i < 0 {
			continue
		}
		var place []int
		if value, ok := tree.Find(f, "target"); ok {
			h, _ := words.Get(value, 0)
			if len(value) != 4 {
				return api.Tree{}, api.ErrFixup
			}
			place, e = handle.Find(t, h)
		} else {
			value, _ := tree.Find(f, "target-path")
			text, _ := prop.Text(value)
			place, e = path.Find(t, text)
		}
		if e != api.OK {
			return api.Tree{}, api.ErrFixup
		}
		t = modelLay(t, place, f.Kids[i])
	}
	_, e = handle.Index(t)
	if e != api.OK {
		return api.Tree{}, e
	}
	return t, api.OK
}

// maker makes random trees, which are formed, and what overlays say of them, which is mostly so.
type maker struct {
	*rand.Rand
	handle uint32
}

// one answers one of l.
func one[T any](r maker, l []T) T { return l[r.IntN(len(l))] }

// often answers whether it is so, which it is but once in n.
func (r *maker) often(n int) bool { return r.IntN(n) > 0 }

func (r *maker) node(name string, levels int) api.Node {
	n := node(name, nil)
	if r.IntN(3) == 0 {
		r.handle += uint32(r.IntN(20) / 19 * 1 << 30)
		if r.often(40) {
			r.handle++
		}
		n.Props = append(n.Props, cells("phandle", r.handle))
	}
	for _, s := range []string{"a", "b", "c"} {
		switch r.IntN(4) {
		case 0:
			n.Props = append(n.Props, val(s, []byte("bytes")[:r.IntN(6)]))
		case 1, 2:
			n.Props = append(n.Props, cells(s, r.Uint32N(20), r.Uint32N(20)))
		}
	}
	for _, s := range []string{"a", "b@1", "b@2", "c"} {
		if levels > 1 && r.IntN(2) == 0 {
			n.Kids = append(n.Kids, r.node(s, levels-1))
		}
	}
	return n
}

// path answers a path of the tree, or a text that is mostly none.
func (r *maker) path(t api.Tree) string {
	if r.often(80) {
		s, _ := path.Path(t, one(*r, path.All(t)))
		return s
	}
	return one(*r, []string{"/", "/a", "/b", "/a/c", "/a/b@2", "s", "", "/none"})
}

func (r *maker) base() api.Tree {
	t := api.Tree{Boot: r.Uint32(), Root: r.node("", 3)}
	with := node("__symbols__", nil)
	for _, ref := range r.refs(t) {
		s, _ := path.Path(t, ref.Place)
		with.Props = append(with.Props, texts("l"+strconv.Itoa(int(ref.Handle)), s))
	}
	if !r.often(3) {
		with.Props = append(with.Props, texts("odd", r.path(t)))
	}
	t.Root.Kids = append(t.Root.Kids, with, node("aliases", props(texts("s", r.path(t)))))
	return t
}

func (r *maker) refs(t api.Tree) []handle.Ref {
	l, _ := handle.Index(t)
	return l
}

// over answers an overlay for the base.
func (r *maker) over(base api.Tree) api.Tree {
	r.handle = 0
	var t api.Tree
	for i := range 1 + r.IntN(3) {
		f := node("f"+strconv.Itoa(i), props(texts("target-path", r.path(base))), r.node("__overlay__", 3))
		if l := r.refs(base); len(l) > 0 && r.IntN(2) == 0 {
			f.Props = props(cells("target", one(*r, l).Handle))
		}
		if r.often(20) {
			t.Root.Kids = append(t.Root.Kids, f)
		}
	}
	symbols, _ := path.Get(base, places(base)["/__symbols__"])
	labels := node("__fixups__", nil)
	for _, p := range symbols.Props {
		if r.IntN(2) == 0 {
			labels.Props = append(labels.Props, texts(p.Name, r.fixups(t)...))
		}
	}
	local := r.local(t.Root)
	local.Name = "__local_fixups__"
	t.Root.Kids = append(t.Root.Kids, labels, local)
	return t
}

// fixups answers texts for cells of t, of which few are none.
func (r *maker) fixups(t api.Tree) []string {
	var l []string
	for range r.IntN(3) {
		place := one(*r, path.All(t))
		n, _ := path.Get(t, place)
		s, _ := path.Path(t, place)
		if i := r.IntN(10); i < len(n.Props) && len(n.Props[i].Value) >= 4 {
			l = append(l, s+":"+n.Props[i].Name+":"+strconv.Itoa(r.IntN(len(n.Props[i].Value)-3)))
		}
	}
	if !r.often(40) {
		l = append(l, one(*r, []string{"", "/f0:target", "/f0:target:1", "f0:target:0", "/f0:none:0", "/none:target:0", "/f0:target:+0", "//f0:target:0"}))
	}
	return l
}

// local answers local fixups of n, of which few are of what isn't there.
func (r *maker) local(n api.Node) api.Node {
	c := node(n.Name, nil)
	for _, p := range n.Props {
		if p.Name != "phandle" && len(p.Value) >= 4 && r.IntN(4) == 0 {
			c.Props = append(c.Props, cells(p.Name, uint32(r.IntN(len(p.Value)-3)), 0))
		}
	}
	if !r.often(150) {
		c.Props = append(c.Props, one(*r, []api.Prop{texts("z", "/"), cells("z", 0), cells("z"), cells("phandle", 1)}))
	}
	for _, kid := range n.Kids {
		if r.often(3) {
			c.Kids = append(c.Kids, r.local(kid))
		}
	}
	if !r.often(30) {
		c.Kids = append(c.Kids, node("none", nil))
	}
	return c
}

// TestLaidOnOrNotAtAll is of formed trees, small enough that none comes to be too great.
func TestLaidOnOrNotAtAll(t *testing.T) {
	seen := make(map[api.Errno]int)
	for i := range uint64(2000) {
		r := maker{rand.New(rand.NewPCG(i, 11)), 0}
		base := r.base()
		over := r.over(base)
		for _, x := range []api.Tree{base, over} {
			if e := tree.Check(x); e != api.OK {
				t.Fatalf("%d: %v, which isn't formed: %v", i, short(x), e)
			}
		}
		hold := func(what string, got, want answer) {
			t.Helper()
			seen[want.e]++
			if want.e != api.OK {
				got.refuse(t, what, want.e)
			} else {
				got.expect(t, what, want.t)
			}
		}
		by := one(r, []uint32{0, 1, 77, 1 << 31, api.MaxHandle - 10, 0xffffffff})
		what := " " + strconv.Itoa(int(i))
		hold("Shift"+what, of(Shift(over, by)), of(modelShift(over, by)))
		hold("Fix"+what, of(Fix(base, over)), of(modelFix(base, over)))
		hold("Apply"+what, of(Apply(base, over)), of(modelApply(base, over)))
		second := r.over(base)
		want := of(modelApply(base, over))
		if want.e == api.OK {
			want = of(modelApply(want.t, second))
		}
		hold("ApplyAll"+what, of(ApplyAll(base, []api.Tree{over, second})), want)
		if t.Failed() {
			t.Fatalf("of %v\nand %v", base, over)
		}
	}
	for _, e := range []api.Errno{api.OK, api.ErrFixup, api.ErrHandle, api.ErrTwice} {
		if seen[e] < 100 {
			t.Errorf("%v came %d times of %v", e, seen[e], seen)
		}
	}
}
