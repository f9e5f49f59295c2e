package edit

import (
	"fmt"
	"math"
	"math/rand/v2"
	"slices"
	"strconv"
	"strings"
	"testing"

	"arboret/api"
	"arboret/name"
	"arboret/path"
	"arboret/tree"
)

// The tests of this package are P9.1's, and, of its calls, the rules R1 to R6's.

func val(name, value string) api.Prop { return api.Prop{Name: name, Value: []byte(value)} }

func node(name string, props []api.Prop, kids ...api.Node) api.Node {
	return api.Node{Name: name, Props: props, Kids: kids}
}

func rooted(props []api.Prop, kids ...api.Node) api.Tree {
	return api.Tree{Boot: 7, Reserves: []api.Reserve{{At: 1, Size: 2}, {At: 3, Size: 0}}, Root: node("", props, kids...)}
}

func props(l ...api.Prop) []api.Prop { return l }

// leaf answers a node that stands below others in full.
func leaf() api.Node { return node("leaf@1", props(val("a", "la"), val("z", "lz"))) }

// full answers a tree with several of everything; each call's is of memory of its own.
func full() api.Tree {
	return rooted(props(val("a", "ra"), val("b", "rb"), val("c", "rc")),
		node("k", props(val("a", "ka"), val("k", "kk")), leaf(), node("m", nil, node("n", props(val("n", "")))), node("o", nil)),
		node("l@1", nil),
		node("a", props(val("d", "ad"))),
	)
}

// with answers n with what f makes of it.
func with(n api.Node, f func(*api.Node)) api.Node {
	f(&n)
	return n
}

// changed answers full with what f makes of its root.
func changed(f func(*api.Node)) api.Tree {
	t := full()
	f(&t.Root)
	return t
}

type answer struct {
	t api.Tree
	e api.Errno
}

func of(t api.Tree, e api.Errno) answer { return answer{t, e} }

// short answers the beginning of what t says, as some trees are great.
func short(t api.Tree) string {
	s := fmt.Sprint(t)
	return s[:min(len(s), 400)]
}

func expect(t *testing.T, what string, got answer, want api.Tree) {
	t.Helper()
	if got.e != api.OK || !tree.Equal(got.t, want) {
		t.Errorf("%s: %s, %v, not %s", what, short(got.t), got.e, short(want))
	}
}

func refuse(t *testing.T, what string, got answer, want api.Errno) {
	t.Helper()
	if got.e != want || got.t.Boot != 0 || len(got.t.Reserves) != 0 || !tree.SameNode(got.t.Root, api.Node{}) {
		t.Errorf("%s: %s, %v, not %v", what, short(got.t), got.e, want)
	}
}

func TestSetWhereItStands(t *testing.T) {
	for _, c := range []struct {
		what  string
		place []int
		name  string
		at    func(*api.Node) *api.Prop
	}{
		{"the root's first", nil, "a", func(n *api.Node) *api.Prop { return &n.Props[0] }},
		{"the root's second", []int{}, "b", func(n *api.Node) *api.Prop { return &n.Props[1] }},
		{"the root's last", nil, "c", func(n *api.Node) *api.Prop { return &n.Props[2] }},
		{"one that has the name of others' properties", []int{0}, "a", func(n *api.Node) *api.Prop { return &n.Kids[0].Props[0] }},
		{"one that has its node's name", []int{0}, "k", func(n *api.Node) *api.Prop { return &n.Kids[0].Props[1] }},
		{"a deep one", []int{0, 0}, "z", func(n *api.Node) *api.Prop { return &n.Kids[0].Kids[0].Props[1] }},
		{"one without bytes", []int{0, 1, 0}, "n", func(n *api.Node) *api.Prop { return &n.Kids[0].Kids[1].Kids[0].Props[0] }},
		{"the last node's", []int{2}, "d", func(n *api.Node) *api.Prop { return &n.Kids[2].Props[0] }},
	} {
		for _, value := range []string{"", "x", "\x00", "ra", "longer than it was", strings.Repeat("\xff", api.MaxBlob+1)} {
			want := changed(func(n *api.Node) { c.at(n).Value = []byte(value) })
			expect(t, c.what, of(Set(full(), c.place, c.name, []byte(value))), want)
		}
		want := changed(func(n *api.Node) { c.at(n).Value = nil })
		expect(t, c.what+", without a value", of(Set(full(), c.place, c.name, nil)), want)
	}
}

func TestSetBehindTheOthers(t *testing.T) {
	for _, c := range []struct {
		what  string
		place []int
		name  string
		at    func(*api.Node) *api.Node
	}{
		{"the root's", nil, "d", func(n *api.Node) *api.Node { return n }},
		{"of a node's name", nil, "k", func(n *api.Node) *api.Node { return n }},
		{"that begins as another one", nil, "aa", func(n *api.Node) *api.Node { return n }},
		{"of a greater letter", nil, "A", func(n *api.Node) *api.Node { return n }},
		{"that comes ahead of the others by its letters", nil, "#", func(n *api.Node) *api.Node { return n }},
		{"that others have", []int{1}, "a", func(n *api.Node) *api.Node { return &n.Kids[1] }},
		{"that the one above has", []int{0, 0}, "k", func(n *api.Node) *api.Node { return &n.Kids[0].Kids[0] }},
		{"a deep one's", []int{0, 1, 0}, "a", func(n *api.Node) *api.Node { return &n.Kids[0].Kids[1].Kids[0] }},
		{"the last node's", []int{2}, "a", func(n *api.Node) *api.Node { return &n.Kids[2] }},
	} {
		for _, value := range []string{"", "x", "\x00\xff"} {
			want := changed(func(n *api.Node) { c.at(n).Props = append(c.at(n).Props, val(c.name, value)) })
			expect(t, c.what, of(Set(full(), c.place, c.name, []byte(value))), want)
		}
	}
	expect(t, "of nothing", of(Set(api.Tree{}, nil, "a", []byte("x"))), api.Tree{Root: node("", props(val("a", "x")))})
}

func TestNamesThatMayNotBeSet(t *testing.T) {
	long := strings.Repeat("n", api.MaxName)
	for _, s := range []string{"", long + "n", "a b", "a@1", "@", "/", "a/b", "\x00", "a\x00", "é", "\xff", "a=", strings.Repeat("n", 1<<20)} {
		refuse(t, "a name that is none, the root's", of(Set(full(), nil, s, []byte("x"))), api.ErrName)
		refuse(t, "a name that is none, another's", of(Set(full(), []int{0, 1, 0}, s, nil)), api.ErrName)
	}
	for _, s := range []string{long, "?", "#", "0", "1a", ",._+-?#", "#address-cells", "Z"} {
		want := changed(func(n *api.Node) { n.Kids[1].Props = props(val(s, "x")) })
		expect(t, s, of(Set(full(), []int{1}, s, []byte("x"))), want)
	}
}

func TestDrop(t *testing.T) {
	for _, c := range []struct {
		what  string
		place []int
		name  string
		want  func(*api.Node)
	}{
		{"the root's first", nil, "a", func(n *api.Node) { n.Props = props(val("b", "rb"), val("c", "rc")) }},
		{"the root's second", []int{}, "b", func(n *api.Node) { n.Props = props(val("a", "ra"), val("c", "rc")) }},
		{"the root's last", nil, "c", func(n *api.Node) { n.Props = props(val("a", "ra"), val("b", "rb")) }},
		{"one that others have", []int{0}, "a", func(n *api.Node) { n.Kids[0].Props = props(val("k", "kk")) }},
		{"a deep one", []int{0, 0}, "z", func(n *api.Node) { n.Kids[0].Kids[0].Props = props(val("a", "la")) }},
		{"the only one", []int{0, 1, 0}, "n", func(n *api.Node) { n.Kids[0].Kids[1].Kids[0].Props = nil }},
		{"the last node's", []int{2}, "d", func(n *api.Node) { n.Kids[2].Props = nil }},
	} {
		expect(t, c.what, of(Drop(full(), c.place, c.name)), changed(c.want))
	}
}

func TestDropWhatIsNotThere(t *testing.T) {
	for _, c := range []struct {
		place []int
		name  string
	}{
		{nil, "d"}, {nil, "k"}, {nil, "l@1"}, {nil, "A"}, {nil, "aa"}, {[]int{0}, "b"}, {[]int{1}, "a"}, {[]int{0, 1, 0}, "a"}, {[]int{2}, "a"},
		// None has a name that is none.
		{nil, ""}, {nil, "a b"}, {nil, "a@1"}, {nil, "\x00"}, {[]int{1}, strings.Repeat("n", api.MaxName+1)},
	} {
		refuse(t, "Drop of "+strconv.Quote(c.name), of(Drop(full(), c.place, c.name)), api.ErrNone)
	}
	refuse(t, "Drop of nothing", of(Drop(api.Tree{}, nil, "a")), api.ErrNone)
}

func TestAdd(t *testing.T) {
	long := strings.Repeat("n", api.MaxName)
	for _, n := range []api.Node{
		{Name: "x"}, {Name: "x@1"}, leaf(), {Name: "b", Props: []api.Prop{}, Kids: []api.Node{}}, {Name: long + "@" + long},
		// A name without @ isn't that of one with it, and names are those right below alone.
		{Name: "l"}, {Name: "l@2"}, {Name: "k@1"}, {Name: "K"}, {Name: "n"},
		node("x", props(val("a", "xa"), val("b", "")), leaf(), node("m", nil, node("x", nil, leaf())), node("l@1", nil)),
	} {
		expect(t, n.Name+", the root's", of(Add(full(), nil, n)), changed(func(r *api.Node) { r.Kids = append(r.Kids, n) }))
		expect(t, n.Name+", of one without", of(Add(full(), []int{1}, n)), changed(func(r *api.Node) { r.Kids[1].Kids = []api.Node{n} }))
		expect(t, n.Name+", the last one's", of(Add(full(), []int{2}, n)), changed(func(r *api.Node) { r.Kids[2].Kids = []api.Node{n} }))
		expect(t, n.Name+", a deep one's", of(Add(full(), []int{0, 1, 0}, n)), changed(func(r *api.Node) { r.Kids[0].Kids[1].Kids[0].Kids = []api.Node{n} }))
		if n.Name != "leaf@1" {
			expect(t, n.Name+", one's that has others", of(Add(full(), []int{0}, n)), changed(func(r *api.Node) { r.Kids[0].Kids = append(r.Kids[0].Kids, n) }))
		}
	}
	expect(t, "of nothing", of(Add(api.Tree{}, []int{}, leaf())), api.Tree{Root: node("", nil, leaf())})
}

func TestNodesThatMayNotBeAdded(t *testing.T) {
	long := strings.Repeat("n", api.MaxName)
	twice := node("x", nil, node("y", nil), node("y", nil))
	for _, c := range []struct {
		what string
		n    api.Node
		want api.Errno
	}{
		{"without a name", api.Node{}, api.ErrName},
		{"a name that is none", node("0", nil), api.ErrName},
		{"a name without a unit behind @", node("x@", nil), api.ErrName},
		{"a path", node("x/y", nil), api.ErrName},
		{"a name that is too long", node(long+"n", nil), api.ErrName},
		{"a property's name that is none", node("x", props(val("a", ""), val("a b", ""))), api.ErrName},
		{"without a name, below", node("x", nil, node("y", nil), api.Node{}), api.ErrName},
		{"a property's name that is none, below", node("x", nil, node("y", props(val("", "")))), api.ErrName},
		{"one that is there", node("k", nil), api.ErrTwice},
		{"another one that is there", node("l@1", nil, leaf()), api.ErrTwice},
		{"the last one that is there", node("a", nil), api.ErrTwice},
		{"two properties of one name", node("x", props(val("a", "1"), val("a", "2"))), api.ErrTwice},
		{"two nodes of one name", twice, api.ErrTwice},
		{"two nodes of one name, below", node("x", nil, twice), api.ErrTwice},
		// The node above asks of the names right below it ahead of all of them.
		{"one that is there, and a property's name that is none", node("k", props(val("", ""))), api.ErrTwice},
		{"one that is there, and nodes twice below it", node("k", nil, twice, node("", nil)), api.ErrTwice},
		// A name is asked ahead of what is twice, and that ahead of what is below.
		{"a name that is none, and nodes twice below it", node("", nil, node("y", nil), node("y", nil)), api.ErrName},
		{"properties twice, and a name that is none below", node("x", props(val("a", ""), val("a", "")), node("", nil)), api.ErrTwice},
	} {
		refuse(t, c.what, of(Add(full(), nil, c.n)), c.want)
	}
	refuse(t, "one that is there, below", of(Add(full(), []int{0}, node("m", nil))), api.ErrTwice)
}

func TestRemove(t *testing.T) {
	for _, c := range []struct {
		what  string
		place []int
		want  func(*api.Node)
	}{
		{"the first one, and all below it", []int{0}, func(n *api.Node) { n.Kids = n.Kids[1:] }},
		{"the second one", []int{1}, func(n *api.Node) { n.Kids = []api.Node{n.Kids[0], n.Kids[2]} }},
		{"the last one", []int{2}, func(n *api.Node) { n.Kids = n.Kids[:2] }},
		{"the first one below one", []int{0, 0}, func(n *api.Node) { n.Kids[0].Kids = n.Kids[0].Kids[1:] }},
		{"one below, and all below it", []int{0, 1}, func(n *api.Node) { n.Kids[0].Kids = []api.Node{leaf(), node("o", nil)} }},
		{"the last one below one", []int{0, 2}, func(n *api.Node) { n.Kids[0].Kids = n.Kids[0].Kids[:2] }},
		{"the only one below one", []int{0, 1, 0}, func(n *api.Node) { n.Kids[0].Kids[1].Kids = nil }},
	} {
		expect(t, c.what, of(Remove(full(), c.place)), changed(c.want))
	}
}

func TestRemoveOfTheRoot(t *testing.T) {
	for _, place := range [][]int{nil, {}} {
		refuse(t, "the root", of(Remove(full(), place)), api.ErrArg)
		refuse(t, "nothing's root", of(Remove(api.Tree{}, place)), api.ErrArg)
	}
}

type call struct {
	what string
	ask  func(x api.Tree, place []int) answer
}

// calls answers all calls; with wrong arguments each is right but for t and the place, else wrong in them too.
func calls(wrong bool) []call {
	s, n := "new", node("new", nil)
	if wrong {
		s, n = "a b", node("0", nil)
	}
	return []call{
		{"Set", func(x api.Tree, place []int) answer { return of(Set(x, place, s, []byte("x"))) }},
		{"Drop", func(x api.Tree, place []int) answer { return of(Drop(x, place, s)) }},
		{"Add", func(x api.Tree, place []int) answer { return of(Add(x, place, n)) }},
		{"Remove", func(x api.Tree, place []int) answer { return of(Remove(x, place)) }},
	}
}

func refuseAll(t *testing.T, what string, x api.Tree, place []int, want api.Errno) {
	t.Helper()
	for _, wrong := range []bool{false, true} {
		for _, c := range calls(wrong) {
			refuse(t, c.what+": "+what, c.ask(x, place), want)
		}
	}
}

// chain answers a tree of that many nodes, the root among them, one below the other.
func chain(depth int) api.Tree {
	if depth < 2 {
		return rooted(nil)
	}
	return rooted(nil, chainNode("c", depth-1))
}

// chainNode answers a node with so many levels, its own among them.
func chainNode(name string, depth int) api.Node {
	n := node(name, nil)
	for range depth - 1 {
		n = node(name, nil, n)
	}
	return n
}

// wide answers so many nodes.
func wide(count int) []api.Node {
	var l []api.Node
	for i := range count {
		l = append(l, node("n"+strconv.Itoa(i), nil))
	}
	return l
}

// many answers so many properties.
func many(count int) []api.Prop {
	var l []api.Prop
	for i := range count {
		l = append(l, api.Prop{Name: "p" + strconv.Itoa(i)})
	}
	return l
}

func TestTreesThatAreNotFormed(t *testing.T) {
	reserves := rooted(nil, node("k", nil))
	reserves.Reserves = make([]api.Reserve, 1)
	for _, c := range []struct {
		what string
		t    api.Tree
		want api.Errno
	}{
		{"too deep", chain(api.MaxDepth + 1), api.ErrDeep},
		{"far too deep", chain(1 << 16), api.ErrDeep},
		{"a root with a name", api.Tree{Root: node("x", nil)}, api.ErrName},
		{"a node without a name", rooted(nil, node("k", nil, node("", nil))), api.ErrName},
		{"a property without a name", rooted(nil, node("k", props(val("", "")))), api.ErrName},
		{"two properties of one name", rooted(props(val("a", ""), val("a", ""))), api.ErrTwice},
		{"two nodes of one name", rooted(nil, node("k", nil), node("k", nil)), api.ErrTwice},
		{"too many nodes", rooted(nil, wide(api.MaxNodes)...), api.ErrMany},
		{"too many properties", rooted(many(api.MaxProps+1), node("k", nil)), api.ErrMany},
		{"a reserve of noughts", reserves, api.ErrMany},
	} {
		// Whether the place is there, and whose it is, is asked behind the tree.
		for _, place := range [][]int{nil, {0}, {9}, {-1}, make([]int, api.MaxDepth+1)} {
			refuseAll(t, c.what, c.t, place, c.want)
		}
	}
	// What is wrong with a tree is told also where the change would mend it.
	refuse(t, "Drop of one of two", of(Drop(rooted(props(val("a", ""), val("a", ""))), nil, "a")), api.ErrTwice)
	refuse(t, "Drop of one too many", of(Drop(rooted(many(api.MaxProps+1)), nil, "p0")), api.ErrMany)
	refuse(t, "Remove of one of two", of(Remove(rooted(nil, node("k", nil), node("k", nil)), []int{1})), api.ErrTwice)
	refuse(t, "Remove of one too many", of(Remove(rooted(nil, wide(api.MaxNodes)...), []int{0})), api.ErrMany)
	refuse(t, "Remove of one too deep", of(Remove(chain(api.MaxDepth+1), make([]int, api.MaxDepth))), api.ErrDeep)
}

func TestPlacesThatAreNotThere(t *testing.T) {
	deepest := chain(api.MaxDepth)
	for _, c := range []struct {
		what  string
		t     api.Tree
		place []int
		want  api.Errno
	}{
		{"one too far", full(), []int{3}, api.ErrNone},
		{"far too far", full(), []int{math.MaxInt}, api.ErrNone},
		{"below 0", full(), []int{-1}, api.ErrNone},
		{"far below 0", full(), []int{math.MinInt}, api.ErrNone},
		{"one too far, deeper", full(), []int{0, 3}, api.ErrNone},
		{"below 0, deeper", full(), []int{0, -1}, api.ErrNone},
		{"below one that has none", full(), []int{1, 0}, api.ErrNone},
		{"a wrong one ahead of a right one", full(), []int{3, 0}, api.ErrNone},
		{"below nothing", api.Tree{}, []int{0}, api.ErrNone},
		{"below the deepest", deepest, make([]int, api.MaxDepth), api.ErrNone},
		{"of more than MaxDepth numbers", deepest, make([]int, api.MaxDepth+1), api.ErrDeep},
		{"of far more", full(), make([]int, 1<<16), api.ErrDeep},
		{"of more than MaxDepth wrong numbers", full(), slices.Repeat([]int{-1}, api.MaxDepth+1), api.ErrDeep},
	} {
		refuseAll(t, c.what, c.t, c.place, c.want)
	}
}

func TestDeepestNodes(t *testing.T) {
	x, deepest := chain(api.MaxDepth), make([]int, api.MaxDepth-1)
	y, e := Set(x, deepest, "a", []byte("x"))
	if n, f := path.Get(y, deepest); e != api.OK || f != api.OK || !tree.SameNode(n, node("c", props(val("a", "x")))) {
		t.Errorf("Set of the deepest node = %v, %v", y, e)
	}
	expect(t, "Drop of the deepest node", of(Drop(y, deepest, "a")), x)
	expect(t, "Remove of the deepest node", of(Remove(x, deepest)), chain(api.MaxDepth-1))
	expect(t, "Add of the deepest node", of(Add(chain(api.MaxDepth-1), deepest[1:], node("c", nil))), x)
	for depth := 1; depth < api.MaxDepth; depth++ {
		rest := chainNode("c", api.MaxDepth-depth)
		expect(t, "Add of several levels", of(Add(chain(depth), make([]int, depth-1), rest)), x)
		rest = chainNode("c", api.MaxDepth-depth+1)
		refuse(t, "Add of one level too many", of(Add(chain(depth), make([]int, depth-1), rest)), api.ErrDeep)
	}
	refuse(t, "Add below the deepest node", of(Add(x, deepest, node("c", nil))), api.ErrDeep)
	// How deep a node stands is asked ahead of its name.
	refuse(t, "Add below the deepest node, without a name", of(Add(x, deepest, api.Node{})), api.ErrDeep)
	refuse(t, "Add of far too many levels", of(Add(full(), nil, chainNode("c", 1<<16))), api.ErrDeep)
	// A list of nodes that is below itself has no end.
	ring := []api.Node{node("c", nil)}
	ring[0].Kids = ring
	refuse(t, "Add of a ring", of(Add(full(), []int{1}, ring[0])), api.ErrDeep)
	refuseAll(t, "a ring", api.Tree{Root: node("", nil, ring...)}, []int{0}, api.ErrDeep)
}

func TestAsManyPropertiesAsMayBe(t *testing.T) {
	l := many(api.MaxProps)
	x := rooted(l[:api.MaxProps-1], node("k", nil))
	expect(t, "Set of the last one that may be", of(Set(x, nil, l[api.MaxProps-1].Name, nil)), rooted(l, node("k", nil)))
	y, e := Set(x, []int{0}, "a", []byte("x"))
	expect(t, "Set of another's", answer{y, e}, rooted(l[:api.MaxProps-1], node("k", props(val("a", "x")))))
	refuse(t, "Set of one more", of(Set(y, nil, "new", nil)), api.ErrMany)
	refuse(t, "Set of one more, another's", of(Set(y, []int{0}, "new", nil)), api.ErrMany)
	refuse(t, "Set of one more, of a name that is none", of(Set(y, nil, "a b", nil)), api.ErrName)
	expect(t, "Set of one that is there", of(Set(y, []int{0}, "a", nil)), rooted(l[:api.MaxProps-1], node("k", props(val("a", "")))))
	expect(t, "Drop of one of them", of(Drop(y, []int{0}, "a")), x)
	refuse(t, "Add of a node with one more", of(Add(y, nil, node("m", props(val("a", ""))))), api.ErrMany)
	refuse(t, "Add of a node with one more below it", of(Add(y, nil, node("m", nil, node("m", props(val("a", "")))))), api.ErrMany)
	z := with(y.Root, func(n *api.Node) { n.Kids = append(slices.Clone(n.Kids), node("m", nil)) })
	expect(t, "Add of a node without", of(Add(y, nil, node("m", nil))), api.Tree{Boot: y.Boot, Reserves: y.Reserves, Root: z})
}

func TestAsManyNodesAsMayBe(t *testing.T) {
	l := wide(api.MaxNodes - 1)
	few, most := rooted(nil, l[:len(l)-1]...), rooted(nil, l...)
	expect(t, "Add of the last one that may be", of(Add(few, nil, l[len(l)-1])), most)
	refuse(t, "Add of two", of(Add(few, nil, node("m", nil, node("m", nil)))), api.ErrMany)
	refuse(t, "Add of one more", of(Add(most, nil, node("m", nil))), api.ErrMany)
	refuse(t, "Add of one more, another's", of(Add(most, []int{5}, node("m", nil))), api.ErrMany)
	refuse(t, "Add of one more, without a name", of(Add(most, nil, api.Node{})), api.ErrName)
	refuse(t, "Add of one more that is there", of(Add(most, nil, l[0])), api.ErrTwice)
	expect(t, "Remove of one of them", of(Remove(most, []int{len(l) - 1})), few)
	expect(t, "Add of many at once", of(Add(rooted(nil), nil, node("m", nil, l[1:]...))), rooted(nil, node("m", nil, l[1:]...)))
	refuse(t, "Add of one too many at once", of(Add(rooted(nil), nil, node("m", nil, l...))), api.ErrMany)
}

func TestAsItWas(t *testing.T) {
	x := full()
	for _, place := range path.All(x) {
		y, e := Set(x, place, "new", []byte("value"))
		if e != api.OK || tree.Equal(x, y) {
			t.Errorf("%v: Set = %v, %v", place, y, e)
		}
		expect(t, "Set, Drop", of(Drop(y, place, "new")), x)
		n, _ := path.Get(x, place)
		for _, p := range n.Props {
			expect(t, "Set of what is there", of(Set(x, place, p.Name, p.Value)), x)
		}
		z, e := Add(x, place, node("new", nil, leaf()))
		if e != api.OK || tree.Equal(x, z) {
			t.Errorf("%v: Add = %v, %v", place, z, e)
		}
		expect(t, "Add, Remove", of(Remove(z, slices.Concat(place, []int{len(n.Kids)}))), x)
	}
}

// at answers n with what f makes of the node at the place, in lists of its own: another way than this package's.
func at(n api.Node, place []int, f func(api.Node) api.Node) api.Node {
	if len(place) == 0 {
		return f(n)
	}
	var kids []api.Node
	for i, kid := range n.Kids {
		if i == place[0] {
			kid = at(kid, place[1:], f)
		}
		kids = append(kids, kid)
	}
	return api.Node{Name: n.Name, Props: n.Props, Kids: kids}
}

// without answers what keep says of each of l.
func without[T any](l []T, keep func(int, T) bool) []T {
	var kept []T
	for i, x := range l {
		if keep(i, x) {
			kept = append(kept, x)
		}
	}
	return kept
}

func modelSet(x api.Tree, place []int, s string, value []byte) answer {
	if !name.Prop(s) {
		return answer{e: api.ErrName}
	}
	x.Root = at(x.Root, place, func(n api.Node) api.Node {
		var l []api.Prop
		found := false
		for _, p := range n.Props {
			if p.Name == s {
				p.Value, found = value, true
			}
			l = append(l, p)
		}
		if !found {
			l = append(l, api.Prop{Name: s, Value: value})
		}
		return api.Node{Name: n.Name, Props: l, Kids: n.Kids}
	})
	return answer{t: x}
}

func modelDrop(x api.Tree, place []int, s string) answer {
	found := false
	x.Root = at(x.Root, place, func(n api.Node) api.Node {
		l := without(n.Props, func(_ int, p api.Prop) bool { return p.Name != s })
		found = len(l) < len(n.Props)
		return api.Node{Name: n.Name, Props: l, Kids: n.Kids}
	})
	if !found {
		return answer{e: api.ErrNone}
	}
	return answer{t: x}
}

func modelAdd(x api.Tree, place []int, more api.Node) answer {
	x.Root = at(x.Root, place, func(n api.Node) api.Node {
		return api.Node{Name: n.Name, Props: n.Props, Kids: slices.Concat(n.Kids, []api.Node{more})}
	})
	if e := tree.Check(x); e != api.OK {
		return answer{e: e}
	}
	return answer{t: x}
}

func modelRemove(x api.Tree, place []int) answer {
	if len(place) == 0 {
		return answer{e: api.ErrArg}
	}
	last := len(place) - 1
	x.Root = at(x.Root, place[:last], func(n api.Node) api.Node {
		l := without(n.Kids, func(i int, _ api.Node) bool { return i != place[last] })
		return api.Node{Name: n.Name, Props: n.Props, Kids: l}
	})
	return answer{t: x}
}

func randomName(r *rand.Rand) string {
	return []string{"a", "b", "c", "d", "e@1", "f@2"}[r.IntN(6)]
}

func randomNode(r *rand.Rand, name string, depth int) api.Node {
	n := api.Node{Name: name}
	for range r.IntN(4) {
		n.Props = append(n.Props, val(randomProp(r), strings.Repeat("v", r.IntN(4))))
	}
	for range r.IntN(4) {
		if depth > 0 {
			n.Kids = append(n.Kids, randomNode(r, randomName(r), depth-1))
		}
	}
	return n
}

// randomProp answers a property's name, now and then one that is none.
func randomProp(r *rand.Rand) string {
	if r.IntN(200) == 0 {
		return "a@1"
	}
	return []string{"a", "b", "c", "d", "e", "#f", "?g"}[r.IntN(7)]
}

// randomPlace answers mostly the place of one of x's nodes.
func randomPlace(r *rand.Rand, x api.Tree) []int {
	if r.IntN(8) == 0 {
		return slices.Repeat([]int{r.IntN(4) - 1}, r.IntN(api.MaxDepth+3))
	}
	all := path.All(x)
	return all[r.IntN(len(all))]
}

func TestRandomTrees(t *testing.T) {
	r := rand.New(rand.NewPCG(9, 9))
	told := make(map[api.Errno]int)
	for range 20000 {
		x := api.Tree{Boot: r.Uint32(), Root: randomNode(r, "", r.IntN(4))}
		place, s, value, n := randomPlace(r, x), randomProp(r), make([]byte, r.IntN(5)), randomNode(r, randomName(r), r.IntN(2))
		_, e := path.Get(x, place)
		if f := tree.Check(x); f != api.OK {
			e = f
		}
		want := []answer{{e: e}, {e: e}, {e: e}, {e: e}}
		if e == api.OK {
			want = []answer{modelSet(x, place, s, value), modelDrop(x, place, s), modelAdd(x, place, n), modelRemove(x, place)}
		}
		was := tree.Clone(x)
		for i, got := range []answer{of(Set(x, place, s, value)), of(Drop(x, place, s)), of(Add(x, place, n)), of(Remove(x, place))} {
			told[got.e]++
			if got.e != want[i].e || !tree.Equal(got.t, want[i].t) {
				t.Fatalf("call %d of %v, %v, %q, %v, %v: %v, not %v", i, was, place, s, value, n, got, want[i])
			}
			if got.e == api.OK && tree.Check(got.t) != api.OK {
				t.Fatalf("call %d of %v, %v, %q, %v, %v: %v isn't formed", i, was, place, s, value, n, got)
			}
		}
		if !tree.Equal(x, was) {
			t.Fatalf("%v is changed: %v", was, x)
		}
	}
	for _, e := range []api.Errno{api.OK, api.ErrArg, api.ErrName, api.ErrDeep, api.ErrNone, api.ErrTwice} {
		if told[e] < 50 {
			t.Errorf("%v was told only %d times", e, told[e])
		}
	}
}
