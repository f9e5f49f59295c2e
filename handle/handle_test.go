package handle

import (
	"math"
	"math/rand/v2"
	"slices"
	"strconv"
	"testing"

	"arboret/api"
	"arboret/path"
	"arboret/prop"
	"arboret/tree"
)

// The tests of this package are P8.1's, and, of its calls, the rules R1 to R6's.

// bare answers a node without a handle.
func bare(name string, kids ...api.Node) api.Node { return api.Node{Name: name, Kids: kids} }

// valued answers a node whose phandle is these bytes, among other properties.
func valued(name string, value []byte, kids ...api.Node) api.Node {
	return api.Node{Name: name, Kids: kids, Props: []api.Prop{
		{Name: "reg", Value: []byte{0, 0, 0, 1}}, {Name: "phandle", Value: value}, {Name: "status"},
	}}
}

func having(name string, h uint32, kids ...api.Node) api.Node {
	return valued(name, prop.FromCells(h), kids...)
}

func rooted(kids ...api.Node) api.Tree { return api.Tree{Root: bare("", kids...)} }

// full answers a tree whose handles go up and down; each call's is of memory of its own.
func full() api.Tree {
	return api.Tree{Boot: 7, Reserves: []api.Reserve{{At: 1, Size: 2}}, Root: having("", 40,
		bare("soc", having("uart@1", 7, bare("x", having("y", 2))), bare("uart@2"), having("uart@3", 9)),
		having("ctrl", api.MaxHandle),
		bare("ram", having("a", 1)),
	)}
}

// refs are full's.
func refs() []Ref {
	return []Ref{{40, nil}, {7, []int{0, 0}}, {2, []int{0, 0, 0, 0}}, {9, []int{0, 2}}, {api.MaxHandle, []int{1}}, {1, []int{2, 0}}}
}

func sameRef(a, b Ref) bool { return a.Handle == b.Handle && slices.Equal(a.Place, b.Place) }

func sameRefs(a, b []Ref) bool { return slices.EqualFunc(a, b, sameRef) }

// most answers the greatest handle of l, another way than Most.
func most(l []Ref) uint32 {
	all := []uint32{0}
	for _, r := range l {
		all = append(all, r.Handle)
	}
	slices.Sort(all)
	return all[len(all)-1]
}

// expect asks all calls of a tree without errors.
func expect(t *testing.T, what string, x api.Tree, want []Ref) {
	t.Helper()
	if l, e := Index(x); e != api.OK || !sameRefs(l, want) {
		t.Errorf("%s: Index = %v, %v, not %v", what, l, e, want)
	}
	if h, e := Most(x); e != api.OK || h != most(want) {
		t.Errorf("%s: Most = %d, %v, not %d", what, h, e, most(want))
	}
	for _, r := range want {
		if place, e := Find(x, r.Handle); e != api.OK || !slices.Equal(place, r.Place) {
			t.Errorf("%s: Find(%d) = %v, %v, not %v", what, r.Handle, place, e, r.Place)
		}
	}
	for _, h := range []uint32{0, 3, 41, 0x07000000, api.MaxHandle - 1, math.MaxUint32} {
		if place, e := Find(x, h); e != api.ErrHandle || len(place) != 0 {
			t.Errorf("%s: Find(%d) = %v, %v", what, h, place, e)
		}
	}
}

// refuse asks all calls of a tree with an error, of handles that are there, and of such that aren't.
func refuse(t *testing.T, what string, x api.Tree, want api.Errno) {
	t.Helper()
	if l, e := Index(x); e != want || len(l) != 0 {
		t.Errorf("%s: Index = %v, %v, not %v", what, l, e, want)
	}
	if h, e := Most(x); e != want || h != 0 {
		t.Errorf("%s: Most = %d, %v, not %v", what, h, e, want)
	}
	for _, h := range []uint32{0, 1, 2, 3, 5, 99, api.MaxHandle, math.MaxUint32} {
		if place, e := Find(x, h); e != want || len(place) != 0 {
			t.Errorf("%s: Find(%d) = %v, %v, not %v", what, h, place, e, want)
		}
	}
}

func TestHandles(t *testing.T) {
	others := api.Node{Name: "a", Props: []api.Prop{
		{Name: "linux,phandle", Value: prop.FromCells(5)}, {Name: "Phandle", Value: prop.FromCells(6)}, {Name: "phandles", Value: []byte{1}},
		{Name: "handle", Value: prop.FromCells(0)}, {Name: "interrupt-parent", Value: prop.FromCells(7)}, {Name: "", Value: prop.FromCells(8)},
	}}
	for _, c := range []struct {
		what string
		t    api.Tree
		want []Ref
	}{
		{"nothing", api.Tree{}, nil},
		{"lists of no elements", api.Tree{Reserves: []api.Reserve{}, Root: api.Node{Props: []api.Prop{}, Kids: []api.Node{}}}, nil},
		{"nodes without", rooted(bare("a", bare("b")), bare("c")), nil},
		{"other properties, and a node of that name", rooted(others, bare("phandle")), nil},
		{"the root alone", api.Tree{Root: having("", 12)}, []Ref{{12, nil}}},
		{"the least, and the greatest", rooted(having("a", 1), having("b", api.MaxHandle)), []Ref{{1, []int{0}}, {api.MaxHandle, []int{1}}}},
		{"one that is greatest ahead", rooted(having("a", 9), having("b", 8)), []Ref{{9, []int{0}}, {8, []int{1}}}},
		{"one that is greatest between", rooted(having("a", 5), having("b", 0x80000000, having("c", 4)), having("d", 0x7fffffff)), []Ref{{5, []int{0}}, {0x80000000, []int{1}}, {4, []int{1, 0}}, {0x7fffffff, []int{2}}}},
		{"one below another", rooted(bare("a"), having("b", 5, bare("c", having("d", 4)))), []Ref{{5, []int{1}}, {4, []int{1, 0, 0}}}},
		{"of several depths", full(), refs()},
		// A tree with two nodes of one name isn't formed, but each has its place.
		{"names that are none", rooted(having("", 5), having("/", 6, having("", 7)), having("", 8)), []Ref{{5, []int{0}}, {6, []int{1}}, {7, []int{1, 0}}, {8, []int{2}}}},
	} {
		expect(t, c.what, c.t, c.want)
	}
}

func TestPhandlesThatAreNotOneCell(t *testing.T) {
	for _, value := range [][]byte{nil, {}, {1}, {0, 5}, {0, 0, 5}, {0, 0, 0, 5, 0}, {0, 0, 0, 5, 0, 0, 0, 6}, make([]byte, 8), make([]byte, api.MaxBlob)} {
		refuse(t, strconv.Itoa(len(value))+" bytes, the root's", api.Tree{Root: valued("", value)}, api.ErrForm)
		refuse(t, strconv.Itoa(len(value))+" bytes, another's", rooted(having("a", 5), bare("b", valued("c", value)), having("d", 6)), api.ErrForm)
	}
}

func TestHandlesThatMayNotBe(t *testing.T) {
	for _, h := range []uint32{0, math.MaxUint32} {
		refuse(t, "the root's", api.Tree{Root: having("", h)}, api.ErrHandle)
		refuse(t, "another's", rooted(having("a", 5), bare("b", having("c", h)), having("d", 6)), api.ErrHandle)
		refuse(t, "two of them", rooted(having("a", h), having("b", h)), api.ErrHandle)
	}
}

func TestHandlesTwice(t *testing.T) {
	for _, h := range []uint32{1, 5, api.MaxHandle} {
		for _, c := range []struct {
			what string
			t    api.Tree
		}{
			{"side by side", rooted(having("a", h), having("b", h))},
			{"of one name", rooted(having("a", h), having("a", h))},
			{"one below the other", rooted(having("a", h, having("b", h)))},
			{"the root's, and another's", api.Tree{Root: having("", h, bare("a", bare("b", having("c", h))))}},
			{"far apart", rooted(bare("a", having("b", h)), having("c", 77), bare("d", bare("e", having("f", h))))},
			{"three of them", rooted(having("a", h), having("b", h), having("c", h))},
		} {
			refuse(t, c.what, c.t, api.ErrTwice)
		}
	}
}

// What is wrong with a node is asked ahead of what is wrong with those behind it, whatever it is.
func TestTheFirstNodesErrorIsTold(t *testing.T) {
	wrong := []struct {
		node api.Node
		want api.Errno
	}{
		{valued("form", []byte{0, 0, 5}), api.ErrForm},
		{having("none", 0), api.ErrHandle},
		{having("above", math.MaxUint32), api.ErrHandle},
		{having("twice", 3), api.ErrTwice},
	}
	for _, a := range wrong {
		for _, b := range wrong {
			what := a.node.Name + ", then " + b.node.Name
			refuse(t, what, rooted(having("a", 3), a.node, having("b", 5), b.node), a.want)
			refuse(t, what+", below the first", rooted(having("a", 3, bare("x", a.node)), b.node), a.want)
			below := a.node
			below.Kids = []api.Node{b.node}
			refuse(t, what+", below that", rooted(having("a", 3), below), a.want)
		}
	}
}

// Find tells what is wrong with a tree also where the node is ahead of that.
func TestFindAsksTheWholeTree(t *testing.T) {
	for _, c := range []struct {
		node api.Node
		want api.Errno
	}{{valued("b", nil), api.ErrForm}, {having("b", 0), api.ErrHandle}, {having("b", 3), api.ErrTwice}} {
		for _, h := range []uint32{3, 4, 0} {
			if place, e := Find(rooted(having("a", 3), bare("c", c.node)), h); e != c.want || len(place) != 0 {
				t.Errorf("Find(%d) = %v, %v, not %v", h, place, e, c.want)
			}
		}
	}
}

// Of several properties of one name, which a formed tree hasn't, the first one is asked, as layer 7's One asks it.
func TestSeveralPhandles(t *testing.T) {
	n := having("a", 5)
	n.Props = append(n.Props, api.Prop{Name: "phandle", Value: prop.FromCells(6)}, api.Prop{Name: "phandle", Value: []byte{1}})
	expect(t, "a cell ahead", rooted(n, having("b", 7)), []Ref{{5, []int{0}}, {7, []int{1}}})
	n = valued("a", []byte{1})
	n.Props = append(n.Props, api.Prop{Name: "phandle", Value: prop.FromCells(6)})
	refuse(t, "what is wrong ahead", rooted(n), api.ErrForm)
}

func TestWideTrees(t *testing.T) {
	var kids []api.Node
	var want []Ref
	for i := range api.MaxNodes + 10 {
		h := uint32(api.MaxNodes+20) - uint32(i)
		kids = append(kids, having("n"+strconv.Itoa(i), h))
		want = append(want, Ref{h, []int{i}})
	}
	x := rooted(kids...)
	if l, e := Index(x); e != api.OK || !sameRefs(l, want) {
		t.Errorf("Index of %d nodes = %d, %v", len(kids), len(l), e)
	}
	if h, e := Most(x); e != api.OK || h != want[0].Handle {
		t.Errorf("Most = %d, %v", h, e)
	}
	for _, i := range []int{0, 1, 4000, len(want) - 1} {
		if place, e := Find(x, want[i].Handle); e != api.OK || !slices.Equal(place, []int{i}) {
			t.Errorf("Find(%d) = %v, %v", want[i].Handle, place, e)
		}
	}
	kids[len(kids)-1] = having("last", want[0].Handle)
	refuse(t, "the last one's that the first one has", x, api.ErrTwice)
}

// chain answers a tree of one node below the other, depth of them and the root; each has a handle, the root 1.
func chain(depth int) api.Tree {
	n := having("a", uint32(depth)+1)
	for i := range depth {
		n = having("a", uint32(depth-i), n)
	}
	return api.Tree{Root: n}
}

// Places aren't asked whether they are as deep as layer 6's Get takes.
func TestDeepTrees(t *testing.T) {
	for _, depth := range []int{api.MaxDepth - 1, api.MaxDepth, api.MaxDepth + 1, 300} {
		var want []Ref
		for i := range depth + 1 {
			want = append(want, Ref{uint32(i) + 1, make([]int, i)})
		}
		x := chain(depth)
		if l, e := Index(x); e != api.OK || !sameRefs(l, want) {
			t.Errorf("%d deep: Index = %d, %v", depth, len(l), e)
		}
	}
	// All places of this one together would be greater than memory is.
	const depth = 1<<16 - 1
	x := chain(depth)
	if h, e := Most(x); e != api.OK || h != depth+1 {
		t.Errorf("%d deep: Most = %d, %v", depth, h, e)
	}
	for _, h := range []uint32{1, 2, 30000, depth + 1} {
		if place, e := Find(x, h); e != api.OK || !slices.Equal(place, make([]int, h-1)) {
			t.Errorf("%d deep: Find(%d) = %d numbers, %v", depth, h, len(place), e)
		}
	}
	x.Root.Kids = append(x.Root.Kids, having("b", depth))
	refuse(t, "one wrong behind all", x, api.ErrTwice)
}

// random answers a tree of a few nodes, many with handles, some of them wrong.
func random(r *rand.Rand, depth int) api.Node {
	var n api.Node
	switch r.IntN(12) {
	case 0, 1, 2, 3, 4:
		n = bare("n")
	case 5:
		n = having("n", []uint32{0, 1, api.MaxHandle, math.MaxUint32}[r.IntN(4)])
	case 6:
		n = valued("n", make([]byte, r.IntN(40)))
	default:
		n = having("n", r.Uint32N(40))
	}
	for range r.IntN(4) {
		if depth > 0 {
			n.Kids = append(n.Kids, random(r, depth-1))
		}
	}
	return n
}

// model tells what Index says by layers 6 and 7, of a tree that isn't deeper than MaxDepth.
func model(x api.Tree) ([]Ref, api.Errno) {
	var l []Ref
	for _, place := range path.All(x) {
		n, _ := path.Get(x, place)
		b, ok := tree.Find(n, "phandle")
		if !ok {
			continue
		}
		cells, e := prop.Cells(b)
		if e != api.OK || len(cells) != 1 {
			return nil, api.ErrForm
		}
		if cells[0] < 1 || cells[0] > api.MaxHandle {
			return nil, api.ErrHandle
		}
		for _, r := range l {
			if r.Handle == cells[0] {
				return nil, api.ErrTwice
			}
		}
		l = append(l, Ref{cells[0], place})
	}
	return l, api.OK
}

func TestRandomTrees(t *testing.T) {
	r := rand.New(rand.NewPCG(8, 8))
	told := make(map[api.Errno]int)
	for range 4000 {
		x := api.Tree{Root: random(r, r.IntN(4))}
		want, f := model(x)
		told[f]++
		l, e := Index(x)
		if e != f || !sameRefs(l, want) {
			t.Fatalf("Index(%v) = %v, %v, not %v, %v", x, l, e, want, f)
		}
		if h, e := Most(x); e != f || h != most(want) {
			t.Fatalf("Most(%v) = %d, %v, not %d, %v", x, h, e, most(want), f)
		}
		for h := range uint32(40) {
			i := slices.IndexFunc(want, func(r Ref) bool { return r.Handle == h })
			place, e := Find(x, h)
			if i >= 0 && (e != api.OK || !slices.Equal(place, want[i].Place)) || i < 0 && (e == api.OK || f != api.OK && e != f || len(place) != 0) {
				t.Fatalf("Find(%v, %d) = %v, %v", x, h, place, e)
			}
		}
	}
	for _, e := range []api.Errno{api.OK, api.ErrForm, api.ErrHandle, api.ErrTwice} {
		if told[e] < 100 {
			t.Errorf("%v was told only %d times", e, told[e])
		}
	}
}

func TestWhatIsHandedInIsLeft(t *testing.T) {
	room := []byte("\x00\x00\x00\x05spare")
	props := []api.Prop{{Name: "phandle", Value: room[:4]}, {Name: "spare", Value: []byte{9}}}
	kids := []api.Node{{Name: "a", Props: props[:1]}, bare("spare")}
	x := api.Tree{Root: api.Node{Kids: kids[:1]}}
	l, _ := Index(x)
	clear(l[0].Place[:cap(l[0].Place)])
	clear(l[:cap(l)])
	place, _ := Find(x, 5)
	clear(place[:cap(place)])
	Most(x)
	if string(room) != "\x00\x00\x00\x05spare" || kids[1].Name != "spare" || props[1].Name != "spare" || !tree.SameNode(kids[0], api.Node{Name: "a", Props: []api.Prop{{Name: "phandle", Value: []byte{0, 0, 0, 5}}}}) {
		t.Errorf("what was handed in, or its spare room, is changed: %q, %v, %v", room, props, kids)
	}
}

// overwrite fills a place, its spare room too.
func overwrite(place []int) {
	place = place[:cap(place)]
	for i := range place {
		place[i] = 99
	}
}

func TestPlacesShareNoMemory(t *testing.T) {
	want := refs()
	for i := range want {
		l, _ := Index(full())
		for j, r := range l {
			if j != i {
				overwrite(r.Place)
				_ = append(r.Place, 98)
			}
		}
		if !sameRef(l[i], want[i]) {
			t.Errorf("the place of %d shares memory with another one: %v", want[i].Handle, l[i].Place)
		}
	}
	x := full()
	l, _ := Index(x)
	a, _ := Find(x, 2)
	b, _ := Find(x, 2)
	overwrite(a)
	if !sameRefs(l, want) || !slices.Equal(b, []int{0, 0, 0, 0}) {
		t.Errorf("an answer changes with another one: %v, %v", l, b)
	}
}

func TestAnswersHangOnTheArgumentsAlone(t *testing.T) {
	x := full()
	for range 3 {
		expect(t, "again", x, refs())
		refuse(t, "again", rooted(having("a", 2), having("b", 2)), api.ErrTwice)
		expect(t, "another one", rooted(having("a", 2)), []Ref{{2, []int{0}}})
	}
}
