package path

import (
	"math"
	"slices"
	"strconv"
	"strings"
	"testing"

	"arboret/api"
	"arboret/tree"
)

// The tests of this file are P6.1's, and, of its calls, the rules R1 to R6's.

func node(name string, kids ...api.Node) api.Node { return api.Node{Name: name, Kids: kids} }

func rooted(kids ...api.Node) api.Tree { return api.Tree{Root: node("", kids...)} }

// chain answers a tree whose deepest node has a place of depth numbers; all nodes on the way are named so.
func chain(depth int, name string) api.Tree {
	n := node(name)
	for range depth - 1 {
		n = node(name, n)
	}
	if depth == 0 {
		return rooted()
	}
	return rooted(n)
}

// full answers a tree with two of everything, and the paths of its nodes in order; each call's is of memory of its own.
func full() (api.Tree, []string) {
	leaf := node("leaf@1")
	leaf.Props = []api.Prop{{Name: "x", Value: []byte{1, 2}}, {Name: "y"}}
	left := node("a", leaf, node("leaf@2"), node("b", node("c", node("a"))))
	left.Props = []api.Prop{{Name: "p", Value: []byte("vp")}}
	return api.Tree{Boot: 7, Reserves: []api.Reserve{{At: 1, Size: 2}}, Root: api.Node{
		Props: []api.Prop{{Name: "q", Value: []byte("vq")}},
		Kids:  []api.Node{left, node("b@0", node("a")), node("a@1")},
	}}, []string{"/", "/a", "/a/leaf@1", "/a/leaf@2", "/a/b", "/a/b/c", "/a/b/c/a", "/b@0", "/b@0/a", "/a@1"}
}

// places are those of full's nodes, in order.
var places = [][]int{{}, {0}, {0, 0}, {0, 1}, {0, 2}, {0, 2, 0}, {0, 2, 0, 0}, {1}, {1, 0}, {2}}

func TestGet(t *testing.T) {
	x, _ := full()
	for _, c := range []struct {
		place []int
		want  api.Node
	}{
		{nil, x.Root},
		{[]int{}, x.Root},
		{[]int{0}, x.Root.Kids[0]},
		{[]int{2}, x.Root.Kids[2]},
		{[]int{0, 0}, x.Root.Kids[0].Kids[0]},
		{[]int{0, 1}, x.Root.Kids[0].Kids[1]},
		{[]int{0, 2}, x.Root.Kids[0].Kids[2]},
		{[]int{0, 2, 0, 0}, x.Root.Kids[0].Kids[2].Kids[0].Kids[0]},
		{[]int{1, 0}, x.Root.Kids[1].Kids[0]},
	} {
		if n, e := Get(x, c.place); e != api.OK || !tree.SameNode(n, c.want) {
			t.Errorf("Get(%v) = %v, %v", c.place, n, e)
		}
	}
	if n, e := Get(api.Tree{}, nil); e != api.OK || !tree.SameNode(n, api.Node{}) {
		t.Errorf("Get of nothing = %v, %v", n, e)
	}
}

func TestPath(t *testing.T) {
	x, paths := full()
	for i, place := range places {
		if s, e := Path(x, place); e != api.OK || s != paths[i] {
			t.Errorf("Path(%v) = %q, %v", place, s, e)
		}
	}
	if s, e := Path(api.Tree{}, nil); e != api.OK || s != "/" {
		t.Errorf("Path of nothing = %q, %v", s, e)
	}
	// The root's name is in no path, also where it has one.
	named := api.Tree{Root: node("root", node("a"))}
	for _, c := range []struct {
		place []int
		want  string
	}{{nil, "/"}, {[]int{0}, "/a"}} {
		if s, e := Path(named, c.place); e != api.OK || s != c.want {
			t.Errorf("Path(%v) below a root with a name = %q, %v", c.place, s, e)
		}
	}
}

func TestNoSuchPlace(t *testing.T) {
	x, _ := full()
	for _, c := range []struct {
		what  string
		t     api.Tree
		place []int
		want  api.Errno
	}{
		{"one too far", x, []int{3}, api.ErrNone},
		{"far too far", x, []int{math.MaxInt}, api.ErrNone},
		{"below 0", x, []int{-1}, api.ErrNone},
		{"far below 0", x, []int{math.MinInt}, api.ErrNone},
		{"one too far, deeper", x, []int{0, 3}, api.ErrNone},
		{"below 0, deeper", x, []int{0, 2, -1}, api.ErrNone},
		{"below one that has none", x, []int{2, 0}, api.ErrNone},
		{"of the second that the first has", x, []int{1, 1}, api.ErrNone},
		{"a wrong one ahead of a right one", x, []int{3, 0}, api.ErrNone},
		{"in a tree of a root alone", api.Tree{}, []int{0}, api.ErrNone},
		{"MaxDepth numbers", x, make([]int, api.MaxDepth), api.ErrNone},
		{"MaxDepth numbers, in a chain", chain(api.MaxDepth-1, "a"), make([]int, api.MaxDepth), api.ErrNone},
		{"one more", x, make([]int, api.MaxDepth+1), api.ErrDeep},
		{"one more, in a chain", chain(api.MaxDepth-1, "a"), make([]int, api.MaxDepth+1), api.ErrDeep},
		{"one more, where a node is", chain(api.MaxDepth+1, "a"), make([]int, api.MaxDepth+1), api.ErrDeep},
		{"far more", x, make([]int, 1<<16), api.ErrDeep},
		{"one more, of wrong numbers", x, slices.Repeat([]int{-1}, api.MaxDepth+1), api.ErrDeep},
	} {
		if n, e := Get(c.t, c.place); e != c.want || !tree.SameNode(n, api.Node{}) {
			t.Errorf("%s: Get = %v, %v, not %v", c.what, n, e, c.want)
		}
		if s, e := Path(c.t, c.place); e != c.want || s != "" {
			t.Errorf("%s: Path = %q, %v, not %v", c.what, s, e, c.want)
		}
	}
}

func TestDeepestPlaces(t *testing.T) {
	// A formed tree's places have less than MaxDepth numbers; one of as many is a node's where the tree isn't formed.
	for _, depth := range []int{api.MaxDepth - 1, api.MaxDepth} {
		x := chain(depth, "a")
		if n, e := Get(x, make([]int, depth)); e != api.OK || !tree.SameNode(n, node("a")) {
			t.Errorf("%d deep: Get = %v, %v", depth, n, e)
		}
		if s, e := Path(x, make([]int, depth)); e != api.OK || s != strings.Repeat("/a", depth) {
			t.Errorf("%d deep: Path = %q, %v", depth, s, e)
		}
	}
}

func samePlaces(a, b [][]int) bool {
	return slices.EqualFunc(a, b, slices.Equal[[]int])
}

func TestAll(t *testing.T) {
	x, _ := full()
	for _, c := range []struct {
		what string
		t    api.Tree
		want [][]int
	}{
		{"nothing", api.Tree{}, [][]int{{}}},
		{"lists of no elements", api.Tree{Root: api.Node{Kids: []api.Node{}}}, [][]int{{}}},
		{"one", rooted(node("a")), [][]int{{}, {0}}},
		{"those below the first ahead of the second", rooted(node("b", node("d"), node("c")), node("a", node("e"))), [][]int{{}, {0}, {0, 0}, {0, 1}, {1}, {1, 0}}},
		{"two of everything", x, places},
		{"names that are none", rooted(node(""), node("/", node("")), node("")), [][]int{{}, {0}, {1}, {1, 0}, {2}}},
	} {
		if l := All(c.t); !samePlaces(l, c.want) {
			t.Errorf("%s: All = %v", c.what, l)
		}
	}
}

func TestAllOfWideAndDeepTrees(t *testing.T) {
	wide := make([]api.Node, api.MaxNodes+10)
	for i := range wide {
		wide[i].Name = "n" + strconv.Itoa(i)
	}
	l := All(rooted(wide...))
	if len(l) != len(wide)+1 {
		t.Fatal(len(l))
	}
	for i, place := range l[1:] {
		if !slices.Equal(place, []int{i}) {
			t.Fatal(i, place)
		}
	}
	for _, depth := range []int{api.MaxDepth - 1, 1000} {
		l := All(chain(depth, "a"))
		if len(l) != depth+1 {
			t.Fatal(depth, len(l))
		}
		for i, place := range l {
			if !slices.Equal(place, make([]int, i)) {
				t.Fatal(depth, i, place)
			}
		}
	}
}

// Whatever All answers, Get and Path take.
func TestAllAreThere(t *testing.T) {
	x, paths := full()
	for i, place := range All(x) {
		if s, e := Path(x, place); e != api.OK || s != paths[i] {
			t.Errorf("Path(%v) = %q, %v", place, s, e)
		}
		n, e := Get(x, place)
		if want := paths[i][strings.LastIndex(paths[i], "/")+1:]; e != api.OK || n.Name != want {
			t.Errorf("Get(%v) = %v, %v", place, n, e)
		}
	}
}

// spoil overwrites all that a node can reach, spare room too.
func spoil(n api.Node) {
	for _, p := range n.Props[:cap(n.Props)] {
		v := p.Value[:cap(p.Value)]
		for i := range v {
			v[i] = 0xee
		}
	}
	for _, kid := range n.Kids[:cap(n.Kids)] {
		spoil(kid)
	}
	props, kids := n.Props[:cap(n.Props)], n.Kids[:cap(n.Kids)]
	for i := range props {
		props[i] = api.Prop{Name: "spoilt"}
	}
	for i := range kids {
		kids[i] = node("spoilt")
	}
}

func TestGetIsNewMemory(t *testing.T) {
	same, _ := full()
	for _, place := range [][]int{nil, {0}, {0, 0}} {
		want, _ := Get(same, place)
		x, _ := full()
		n, _ := Get(x, place)
		spoil(n)
		if !tree.Equal(x, same) {
			t.Errorf("%v: what was handed in changes with the answer", place)
		}
		n, _ = Get(x, place)
		spoil(x.Root)
		if !tree.SameNode(n, want) {
			t.Errorf("%v: the answer changes with what was handed in", place)
		}
	}
}

func TestAllIsNewMemory(t *testing.T) {
	x, _ := full()
	l := All(x)
	for i := range l {
		was := slices.Clone(l[i])
		// Whoever appends to a place, or overwrites it, leaves the others.
		for j, other := range l {
			if j != i {
				for k := range other[:cap(other)] {
					other[:cap(other)][k] = 99
				}
				_ = append(other, 98)
			}
		}
		if !slices.Equal(l[i], was) {
			t.Errorf("place %d shares memory with another one: %v", i, l[i])
		}
		l = All(x)
	}
	if !samePlaces(l, places) {
		t.Errorf("an answer changes with an earlier one: %v", l)
	}
}

// given answers what is handed in, with spare room behind each list, and a call that tells whether it is as it was.
func given() (api.Tree, []int, func() bool) {
	room := []int{0, 0, 7, 8, 9}
	below := []api.Node{node("a", node("b")), node("spare")}
	x := api.Tree{Root: api.Node{Kids: below[:1]}}
	return x, room[:2], func() bool {
		return slices.Equal(room, []int{0, 0, 7, 8, 9}) && below[1].Name == "spare" && tree.Equal(x, rooted(node("a", node("b"))))
	}
}

func TestWhatIsHandedInIsLeft(t *testing.T) {
	x, place, same := given()
	Get(x, place)
	Path(x, place)
	for _, l := range All(x) {
		_ = append(l, 5)
	}
	l, _ := Find(x, "/a/b")
	_ = append(l, 5)
	clear(l)
	if !same() {
		t.Error("what was handed in, or its spare room, is changed")
	}
}

func TestAnswersHangOnTheArgumentsAlone(t *testing.T) {
	for range 3 {
		x, _ := full()
		n, e := Get(x, []int{1})
		s, f := Path(x, []int{1, 0})
		l, g := Find(x, "/a/b")
		if e != api.OK || n.Name != "b@0" || f != api.OK || s != "/b@0/a" || g != api.OK || !slices.Equal(l, []int{0, 2}) || len(All(x)) != len(places) {
			t.Error(n, e, s, f, l, g)
		}
		Get(x, []int{9})
		Path(rooted(), []int{0})
		Find(rooted(), "b")
		All(rooted())
	}
}
