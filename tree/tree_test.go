package tree

import (
	"bytes"
	"math"
	"slices"
	"strconv"
	"strings"
	"testing"

	"arboret/api"
)

// The tests of this file are P3.1's, and, of its calls, the rules R1 to R6's.

func node(name string, kids ...api.Node) api.Node { return api.Node{Name: name, Kids: kids} }

func with(n api.Node, names ...string) api.Node {
	for _, s := range names {
		n.Props = append(n.Props, api.Prop{Name: s})
	}
	return n
}

func rooted(kids ...api.Node) api.Tree { return api.Tree{Root: node("", kids...)} }

// chain answers a node named "a" that is depth nodes deep, the last of them being last.
func chain(depth int, last api.Node) api.Node {
	for range depth - 1 {
		last = node("a", last)
	}
	return last
}

// kids answers n nodes of different names.
func kids(n int) []api.Node {
	l := make([]api.Node, n)
	for i := range l {
		l[i].Name = "n" + strconv.Itoa(i)
	}
	return l
}

// props answers n properties of different names.
func props(n int) []api.Prop {
	l := make([]api.Prop, n)
	for i := range l {
		l[i].Name = strconv.Itoa(i)
	}
	return l
}

func reserves(n int) []api.Reserve { return slices.Repeat([]api.Reserve{{At: 1, Size: 1}}, n) }

// full answers a tree with two of everything; each call's is of memory of its own.
func full() api.Tree {
	leaf := api.Node{Name: "leaf", Props: []api.Prop{{Name: "x", Value: []byte{1, 2}}}}
	return api.Tree{
		Boot:     7,
		Reserves: []api.Reserve{{At: 1, Size: 2}, {At: 3, Size: 4}},
		Root: api.Node{
			Props: []api.Prop{{Name: "a", Value: []byte("va")}, {Name: "b", Value: []byte("vb")}},
			Kids: []api.Node{
				{Name: "k@1", Props: []api.Prop{{Name: "c", Value: []byte("vc")}}, Kids: []api.Node{leaf, node("other")}},
				{Name: "l", Props: []api.Prop{{Name: "a", Value: nil}}},
			},
		},
	}
}

type checked struct {
	what string
	t    api.Tree
	want api.Errno
}

func check(t *testing.T, l []checked) {
	t.Helper()
	for _, c := range l {
		if e := Check(c.t); e != c.want {
			t.Errorf("%s: %v, not %v", c.what, e, c.want)
		}
	}
}

func TestCheckFormed(t *testing.T) {
	check(t, []checked{
		{"nothing", api.Tree{}, api.OK},
		{"lists of no elements", api.Tree{Reserves: []api.Reserve{}, Root: api.Node{Props: []api.Prop{}, Kids: []api.Node{}}}, api.OK},
		{"two of everything", full(), api.OK},
		{"any boot, any value", api.Tree{Boot: math.MaxUint32, Root: api.Node{Props: []api.Prop{{Name: "a", Value: make([]byte, 1<<21)}}}}, api.OK},
		{"one name on two levels", rooted(node("a", node("a", node("a")))), api.OK},
		{"one name below two nodes", rooted(node("a", node("c")), node("b", node("c"))), api.OK},
		{"one name of a property in two nodes", rooted(with(node("a"), "p"), with(node("b"), "p")), api.OK},
		{"one name of a node and of a property", api.Tree{Root: with(node("", node("a")), "a")}, api.OK},
		{"one base", rooted(node("a"), node("a@0"), node("a@00"), node("a@1")), api.OK},
		{"small and great letters", rooted(with(node("a"), "p", "P"), node("A")), api.OK},
	})
}

func TestCheckDeep(t *testing.T) {
	check(t, []checked{
		{"MaxDepth", rooted(chain(api.MaxDepth-1, node("a"))), api.OK},
		{"one deeper", rooted(chain(api.MaxDepth, node("a"))), api.ErrDeep},
		{"one deeper at the end", rooted(node("b"), chain(api.MaxDepth-1, node("a", node("b"))), node("c")), api.ErrDeep},
		{"2^16 deep", rooted(chain(1<<16-1, node("a"))), api.ErrDeep},
	})
}

func TestCheckNames(t *testing.T) {
	long := strings.Repeat("a", api.MaxName)
	check(t, []checked{
		{"a root with a name", api.Tree{Root: node("a")}, api.ErrName},
		{"a root named /", api.Tree{Root: node("/")}, api.ErrName},
		{"a node without a name", rooted(node("")), api.ErrName},
		{"a node without a name, deeper", rooted(node("a", node("b", node("")))), api.ErrName},
		{"a node that begins with a digit", rooted(node("0")), api.ErrName},
		{"a node's name with a #", rooted(node("#a")), api.ErrName},
		{"a node with an empty unit", rooted(node("a@")), api.ErrName},
		{"a node of MaxName bytes", rooted(node(long + "@" + long)), api.OK},
		{"a node of more", rooted(node(long + "a")), api.ErrName},
		{"a property without a name", api.Tree{Root: with(node(""), "")}, api.ErrName},
		{"a property with an @", api.Tree{Root: with(node(""), "a", "a@1")}, api.ErrName},
		{"a property that begins with a digit, and a #", api.Tree{Root: with(node(""), "0", "#a", "?")}, api.OK},
		{"a property of MaxName bytes", api.Tree{Root: with(node(""), long)}, api.OK},
		{"a property of more", api.Tree{Root: with(node(""), long+"a")}, api.ErrName},
		{"a property's name, deeper", rooted(node("a"), node("b", with(node("c"), "p", " "))), api.ErrName},
	})
}

func TestCheckTwice(t *testing.T) {
	check(t, []checked{
		{"two properties", api.Tree{Root: with(node(""), "a", "a")}, api.ErrTwice},
		{"the first and the last", api.Tree{Root: with(node(""), "a", "b", "c", "a")}, api.ErrTwice},
		{"the last two", api.Tree{Root: with(node(""), "a", "b", "c", "c")}, api.ErrTwice},
		{"two properties of different values", api.Tree{Root: api.Node{Props: []api.Prop{{Name: "a", Value: []byte{1}}, {Name: "a"}}}}, api.ErrTwice},
		{"two properties, deeper", rooted(node("a"), node("b", with(node("c"), "p", "p"))), api.ErrTwice},
		{"two nodes", rooted(node("a"), node("a")), api.ErrTwice},
		{"two nodes apart", rooted(node("a"), node("b"), node("c"), node("a")), api.ErrTwice},
		{"two nodes with a unit", rooted(node("a@1"), node("a@1")), api.ErrTwice},
		{"two different nodes", rooted(with(node("a"), "p"), node("a", node("b"))), api.ErrTwice},
		{"two nodes, deeper", rooted(node("a"), node("b", node("c", node("d"), node("d")))), api.ErrTwice},
	})
}

func TestCheckMany(t *testing.T) {
	zero := func(n, at int) []api.Reserve {
		l := reserves(n)
		l[at] = api.Reserve{}
		return l
	}
	half := func(n int) api.Tree {
		return api.Tree{Root: api.Node{Props: props(api.MaxProps / 2), Kids: []api.Node{{Name: "a", Props: props(n)}}}}
	}
	check(t, []checked{
		{"MaxNodes nodes", rooted(kids(api.MaxNodes - 1)...), api.OK},
		{"more nodes", rooted(kids(api.MaxNodes)...), api.ErrMany},
		{"MaxNodes nodes on three levels", rooted(node("a", kids(api.MaxNodes-3)...), node("b")), api.OK},
		{"more nodes on three levels", rooted(node("a", kids(api.MaxNodes-2)...), node("b")), api.ErrMany},
		{"MaxProps properties", api.Tree{Root: api.Node{Props: props(api.MaxProps)}}, api.OK},
		{"more properties", api.Tree{Root: api.Node{Props: props(api.MaxProps + 1)}}, api.ErrMany},
		{"MaxProps properties of two nodes", half(api.MaxProps / 2), api.OK},
		{"more properties of two nodes", half(api.MaxProps/2 + 1), api.ErrMany},
		{"MaxReserves reserves, all alike", api.Tree{Reserves: reserves(api.MaxReserves)}, api.OK},
		{"more reserves", api.Tree{Reserves: reserves(api.MaxReserves + 1)}, api.ErrMany},
		{"a reserve of noughts", api.Tree{Reserves: []api.Reserve{{}}}, api.ErrMany},
		{"the first of noughts", api.Tree{Reserves: zero(3, 0)}, api.ErrMany},
		{"the last of noughts", api.Tree{Reserves: zero(3, 2)}, api.ErrMany},
		{"reserves with one nought", api.Tree{Reserves: []api.Reserve{{At: 1}, {Size: 1}, {At: math.MaxUint64, Size: math.MaxUint64}}}, api.OK},
	})
}

func TestCheckOrderWithinANode(t *testing.T) {
	check(t, []checked{
		{"deep ahead of its name", rooted(chain(api.MaxDepth, with(node(""), ""))), api.ErrDeep},
		{"its name ahead of what it has twice", api.Tree{Root: with(node("a"), "p", "p")}, api.ErrName},
		{"a property's name ahead of two of one name", api.Tree{Root: with(node(""), "p", "p", "")}, api.ErrName},
		{"a property's name ahead of two nodes of one name", api.Tree{Root: with(node("", node("a"), node("a")), "")}, api.ErrName},
		{"two properties that have no name", api.Tree{Root: with(node(""), "", "")}, api.ErrName},
	})
}

func TestCheckOrderOfNodes(t *testing.T) {
	tooDeep := chain(api.MaxDepth, node("a"))
	check(t, []checked{
		{"two of one name ahead of what they are", rooted(node(""), node("")), api.ErrTwice},
		{"two of one name ahead of the names below", rooted(node("a", node("0")), node("a")), api.ErrTwice},
		{"two of one name ahead of the depth below", rooted(tooDeep, node("a")), api.ErrTwice},
		{"the root's name ahead of all", api.Tree{Root: node("a", tooDeep)}, api.ErrName},
		{"the first node's, below it, ahead of the second's", rooted(node("a", node("b"), node("b")), node("")), api.ErrTwice},
		{"the first node's ahead of the second's", rooted(node(""), node("a", node("b"), node("b"))), api.ErrName},
		{"the first node's depth ahead of the second's name", rooted(tooDeep, node("")), api.ErrDeep},
		{"the first node's name ahead of the second's depth", rooted(node(""), tooDeep), api.ErrName},
	})
}

func TestCheckManyIsLast(t *testing.T) {
	late := append(kids(api.MaxNodes+1), node(""))
	check(t, []checked{
		{"too many nodes, and a bad name behind them", rooted(late...), api.ErrName},
		{"too many properties, and one twice", api.Tree{Root: with(api.Node{Props: props(api.MaxProps + 1)}, "0")}, api.ErrTwice},
		{"too many reserves, and too deep", api.Tree{Reserves: reserves(65), Root: rooted(chain(16, node("a"))).Root}, api.ErrDeep},
		{"a reserve of noughts, and a bad name", api.Tree{Reserves: []api.Reserve{{}}, Root: node("a")}, api.ErrName},
	})
}

// changes are what makes of full's tree another one, one thing at a time.
func changes() map[string]func(*api.Tree) {
	return map[string]func(*api.Tree){
		"boot":                func(t *api.Tree) { t.Boot++ },
		"a reserve's place":   func(t *api.Tree) { t.Reserves[1].At++ },
		"a reserve's size":    func(t *api.Tree) { t.Reserves[0].Size++ },
		"a reserve less":      func(t *api.Tree) { t.Reserves = t.Reserves[:1] },
		"a reserve more":      func(t *api.Tree) { t.Reserves = append(t.Reserves, api.Reserve{}) },
		"the reserves' order": func(t *api.Tree) { slices.Reverse(t.Reserves) },
		"the root's name":     func(t *api.Tree) { t.Root.Name = "a" },
		"a property's name":   func(t *api.Tree) { t.Root.Props[1].Name = "c" },
		"a value":             func(t *api.Tree) { t.Root.Props[1].Value[1]++ },
		"a longer value":      func(t *api.Tree) { t.Root.Props[0].Value = []byte("va\x00") },
		"a shorter value":     func(t *api.Tree) { t.Root.Props[0].Value = []byte("v") },
		"a property less":     func(t *api.Tree) { t.Root.Props = t.Root.Props[:1] },
		"a property more":     func(t *api.Tree) { t.Root.Kids[1] = with(t.Root.Kids[1], "z") },
		"the properties' order": func(t *api.Tree) {
			slices.Reverse(t.Root.Props)
		},
		"a node's name":      func(t *api.Tree) { t.Root.Kids[0].Name = "k@2" },
		"a node less":        func(t *api.Tree) { t.Root.Kids = t.Root.Kids[:1] },
		"a node more":        func(t *api.Tree) { t.Root.Kids[1].Kids = []api.Node{{}} },
		"the nodes' order":   func(t *api.Tree) { slices.Reverse(t.Root.Kids) },
		"a deep node's name": func(t *api.Tree) { t.Root.Kids[0].Kids[1].Name = "Other" },
		"a deep value":       func(t *api.Tree) { t.Root.Kids[0].Kids[0].Props[0].Value[0] = 9 },
		"a deep order":       func(t *api.Tree) { slices.Reverse(t.Root.Kids[0].Kids) },
	}
}

func TestEqual(t *testing.T) {
	a := full()
	if !Equal(a, a) || !Equal(a, full()) || !Equal(api.Tree{}, api.Tree{}) {
		t.Error("the same isn't equal")
	}
	for what, change := range changes() {
		b := full()
		change(&b)
		if Equal(a, b) || Equal(b, a) {
			t.Errorf("%s: what is changed is equal", what)
		}
		if !Equal(b, b) || !Equal(a, full()) {
			t.Errorf("%s: the same isn't equal, or was changed", what)
		}
	}
	if Equal(a, api.Tree{}) || Equal(api.Tree{}, a) {
		t.Error("a tree equals none")
	}
}

func TestSameNode(t *testing.T) {
	a := full()
	if !SameNode(a.Root, full().Root) || !SameNode(api.Node{}, api.Node{}) {
		t.Error("the same isn't")
	}
	for what, change := range changes() {
		b := full()
		change(&b)
		// What stands beside the root isn't the root's.
		want := what == "boot" || strings.Contains(what, "reserve")
		if SameNode(a.Root, b.Root) != want || SameNode(b.Root, a.Root) != want {
			t.Errorf("%s: not %v", what, want)
		}
	}
}

func TestListsOfNoElementsAreTheSame(t *testing.T) {
	a := api.Tree{Root: api.Node{Props: []api.Prop{{Name: "a"}}, Kids: []api.Node{{Name: "k"}}}}
	b := api.Tree{Reserves: []api.Reserve{}, Root: api.Node{
		Props: []api.Prop{{Name: "a", Value: []byte{}}},
		Kids:  []api.Node{{Name: "k", Props: []api.Prop{}, Kids: []api.Node{}}},
	}}
	if !Equal(a, b) || !Equal(b, a) || !SameNode(a.Root, b.Root) || !SameNode(b.Root, a.Root) {
		t.Error("nil and empty differ")
	}
	for _, x := range []api.Tree{a, b} {
		if !Equal(x, Clone(x)) || Check(x) != api.OK {
			t.Error("nil or empty can't be copied, or isn't formed")
		}
	}
}

// Trees that aren't formed have copies, too.
func unformed() api.Tree {
	return api.Tree{Reserves: []api.Reserve{{}, {}}, Root: api.Node{
		Name:  "/",
		Props: []api.Prop{{Value: []byte{1}}, {Value: []byte{2}}},
		Kids:  []api.Node{with(node("0"), "@", "@"), node("0"), node("")},
	}}
}

func TestClone(t *testing.T) {
	for _, x := range []api.Tree{{}, full(), unformed()} {
		if y := Clone(x); !Equal(x, y) || !SameNode(x.Root, y.Root) {
			t.Errorf("Clone(%v) = %v", x, y)
		}
		if y := CloneNode(x.Root); !SameNode(x.Root, y) {
			t.Errorf("CloneNode(%v) = %v", x.Root, y)
		}
	}
}

func TestCloneSharesNothing(t *testing.T) {
	for what, change := range changes() {
		a := full()
		b := Clone(a)
		change(&b)
		if !Equal(a, full()) {
			t.Errorf("%s: what was handed in changes with the answer", what)
		}
		c := full()
		d := Clone(c)
		change(&c)
		if !Equal(d, full()) {
			t.Errorf("%s: the answer changes with what was handed in", what)
		}
	}
}

// spoil overwrites all that a node can reach, spare room too.
func spoil(n api.Node) {
	for _, p := range n.Props[:cap(n.Props)] {
		for i := range p.Value[:cap(p.Value)] {
			p.Value[:cap(p.Value)][i] = 0xee
		}
	}
	for _, kid := range n.Kids[:cap(n.Kids)] {
		spoil(kid)
	}
	for i := range n.Props[:cap(n.Props)] {
		n.Props[:cap(n.Props)][i] = api.Prop{Name: "spoilt"}
	}
	for i := range n.Kids[:cap(n.Kids)] {
		n.Kids[:cap(n.Kids)][i] = api.Node{Name: "spoilt"}
	}
}

func TestCloneNodeIsNewMemory(t *testing.T) {
	a := full().Root
	b := CloneNode(a)
	spoil(b)
	if !SameNode(a, full().Root) {
		t.Error("what was handed in changes with the answer")
	}
	c := CloneNode(a)
	spoil(a)
	if !SameNode(c, full().Root) {
		t.Error("the answer changes with what was handed in")
	}
}

func TestSpareRoomIsLeft(t *testing.T) {
	values := []byte("valuespare")
	list := []api.Prop{{Name: "a", Value: values[:5]}, {Name: "spare", Value: values}}
	below := []api.Node{{Name: "k"}, {Name: "spare"}}
	held := []api.Reserve{{At: 1, Size: 1}, {At: 9, Size: 9}}
	x := api.Tree{Reserves: held[:1], Root: api.Node{Props: list[:1], Kids: below[:1]}}
	y := Clone(x)
	_ = append(y.Reserves, api.Reserve{At: 5})
	spoil(y.Root)
	v, _ := Find(x.Root, "a")
	clear(v[:cap(v)])
	if e := Check(x); e != api.OK {
		t.Error(e)
	}
	Count(x.Root)
	Kid(x.Root, "spare")
	if string(values) != "valuespare" || list[1].Name != "spare" || below[1].Name != "spare" || held[1] != (api.Reserve{At: 9, Size: 9}) {
		t.Error("spare room is changed")
	}
	if len(y.Root.Props) != 1 || len(y.Root.Kids) != 1 || len(y.Reserves) != 1 {
		t.Error("spare room is copied")
	}
}

// Two lists of an answer are apart, even where those that were handed in are one.
func TestCloneParts(t *testing.T) {
	v := []byte("v")
	shared := []api.Prop{{Name: "a", Value: v}, {Name: "b", Value: v}}
	x := api.Node{Props: shared, Kids: []api.Node{{Name: "k", Props: shared}, {Name: "l", Props: shared}}}
	y := CloneNode(x)
	y.Props[0].Value[0] = 'w'
	y.Kids[0].Props[1].Name = "c"
	y.Kids[0].Props[1].Value[0] = 'x'
	want := "vvvvv"
	got := ""
	for _, p := range slices.Concat(y.Props[1:], y.Kids[0].Props[:1], y.Kids[1].Props) {
		got += string(p.Value)
	}
	if got = got + string(v); got != want || y.Kids[1].Props[1].Name != "b" {
		t.Errorf("%q", got)
	}
}

func TestCount(t *testing.T) {
	for _, c := range []struct {
		n            api.Node
		nodes, props int
	}{
		{api.Node{}, 1, 0},
		{api.Node{Props: []api.Prop{}, Kids: []api.Node{}}, 1, 0},
		{full().Root, 5, 5},
		{full().Root.Kids[0], 3, 2},
		{full().Root.Kids[1], 1, 1},
		{unformed().Root, 4, 4},
		{node("", kids(5000)...), 5001, 0},
		{api.Node{Props: props(9000)}, 1, 9000},
		{chain(40, with(node("a"), "p")), 40, 1},
	} {
		if nodes, props := Count(c.n); nodes != c.nodes || props != c.props {
			t.Errorf("Count = %d, %d, not %d, %d", nodes, props, c.nodes, c.props)
		}
	}
}

func TestFind(t *testing.T) {
	n := api.Node{Name: "x", Props: []api.Prop{
		{Name: "a", Value: []byte("first")},
		{Name: "empty"},
		{Name: "a", Value: []byte("second")},
		{Name: "last", Value: []byte{0}},
		{Name: "", Value: []byte("nameless")},
	}, Kids: []api.Node{{Name: "k", Props: []api.Prop{{Name: "below", Value: []byte("v")}}}}}
	for _, c := range []struct {
		name, want string
		ok         bool
	}{
		{"a", "first", true},
		{"empty", "", true},
		{"last", "\x00", true},
		{"", "nameless", true},
		{"A", "", false},
		{"las", "", false},
		{"lastly", "", false},
		{"below", "", false},
		{"k", "", false},
		{"x", "", false},
	} {
		if v, ok := Find(n, c.name); string(v) != c.want || ok != c.ok {
			t.Errorf("Find(%q) = %q, %v", c.name, v, ok)
		}
	}
	if v, ok := Find(api.Node{}, ""); len(v) != 0 || ok {
		t.Errorf("Find in nothing = %q, %v", v, ok)
	}
}

func TestFindIsNewMemory(t *testing.T) {
	n := full().Root
	v, _ := Find(n, "a")
	v[0] = 'w'
	w, _ := Find(n, "a")
	n.Props[0].Value[1] = 'z'
	if !bytes.Equal(w, []byte("va")) || n.Props[0].Value[0] != 'v' {
		t.Errorf("the answer and what was handed in are one: %q, %q", w, n.Props[0].Value)
	}
}

func TestKid(t *testing.T) {
	n := with(node("x", node("a", node("below")), node("b@1"), node("b"), node("a"), node("")), "p")
	for _, c := range []struct {
		name string
		want int
	}{
		{"a", 0}, {"b@1", 1}, {"b", 2}, {"", 4}, {"A", -1}, {"b@", -1}, {"b@2", -1}, {"below", -1}, {"p", -1}, {"x", -1}, {"a/below", -1},
	} {
		if x := Kid(n, c.name); x != c.want {
			t.Errorf("Kid(%q) = %d", c.name, x)
		}
	}
	if x := Kid(api.Node{}, ""); x != -1 {
		t.Errorf("Kid of nothing = %d", x)
	}
}

// What is asked of each pair of a list would not end here in any time that a test has.
func TestWideTreesEnd(t *testing.T) {
	const wide = 300000
	x := api.Tree{Root: api.Node{Props: props(wide), Kids: kids(wide)}}
	if e := Check(x); e != api.ErrMany {
		t.Error(e)
	}
	x.Root.Kids[0].Name = x.Root.Kids[wide-1].Name
	if e := Check(x); e != api.ErrTwice {
		t.Error(e)
	}
	if nodes, props := Count(x.Root); nodes != wide+1 || props != wide || !Equal(x, Clone(x)) {
		t.Error(nodes, props)
	}
}

func TestDeepTreesEnd(t *testing.T) {
	const deep = 1 << 16
	x := chain(deep, with(node("end"), "p"))
	y := CloneNode(x)
	if nodes, props := Count(y); nodes != deep || props != 1 || !SameNode(x, y) {
		t.Error(nodes, props)
	}
	if SameNode(x, chain(deep, node("end"))) || SameNode(x, chain(deep-1, with(node("end"), "p"))) {
		t.Error("what differs at the end is the same")
	}
}

func TestAnswersHangOnTheArgumentsAlone(t *testing.T) {
	for range 3 {
		v, ok := Find(full().Root, "b")
		if e := Check(full()); e != api.OK || string(v) != "vb" || !ok || Kid(full().Root, "l") != 1 {
			t.Error(e, v, ok)
		}
		Check(unformed())
		Find(unformed().Root, "b")
		Kid(unformed().Root, "l")
	}
}
