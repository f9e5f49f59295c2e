package merge

import (
	"fmt"
	"math/rand/v2"
	"slices"
	"strconv"
	"strings"
	"testing"

	"arboret/api"
	"arboret/tree"
)

// The tests of this package are P10.1's and P10.2's, and, of its call, the rules R1 to R4's.

func val(name, value string) api.Prop { return api.Prop{Name: name, Value: []byte(value)} }

func node(name string, props []api.Prop, kids ...api.Node) api.Node {
	return api.Node{Name: name, Props: props, Kids: kids}
}

func props(l ...api.Prop) []api.Prop { return l }

// short answers the beginning of what n says, as some are great.
func short(n api.Node) string {
	s := fmt.Sprint(n)
	return s[:min(len(s), 400)]
}

// expectOnce asks P10.1's want of a and b. It is for those of which P10.2 need not hold: a new node that has two of one
// name comes as it is, and laid over again the last one's value comes to the first one.
func expectOnce(t *testing.T, what string, a, b, want api.Node) api.Node {
	t.Helper()
	got := Merge(a, b)
	if !tree.SameNode(got, want) {
		t.Errorf("%s: %s, not %s", what, short(got), short(want))
	}
	if !nothingIsLost(a, got) {
		t.Errorf("%s: something is lost: %s", what, short(got))
	}
	return got
}

// expect asks P10.1's want of a and b, and P10.2's of what comes.
func expect(t *testing.T, what string, a, b, want api.Node) {
	t.Helper()
	got := expectOnce(t, what, a, b, want)
	if again := Merge(got, b); !tree.SameNode(again, got) {
		t.Errorf("%s: laid over twice it is %s, not %s", what, short(again), short(got))
	}
}

// full answers a node with several of everything; each call's is of memory of its own.
func full() api.Node {
	return node("full", props(val("a", "ra"), val("b", "rb"), val("c", "rc")),
		node("k", props(val("a", "ka"), val("k", "kk")), node("leaf@1", props(val("a", "la"), val("z", "lz"))), node("m", nil, node("n", props(val("n", ""))))),
		node("l@1", nil),
		node("a", props(val("d", "ad"))),
	)
}

// changed answers full with what f makes of it.
func changed(f func(*api.Node)) api.Node {
	n := full()
	f(&n)
	return n
}

func TestNothingIsLaidOver(t *testing.T) {
	for _, b := range []api.Node{{}, {Name: "full"}, {Name: "other@1"}, {Props: []api.Prop{}, Kids: []api.Node{}}} {
		expect(t, "nothing over full", full(), b, full())
		expect(t, "nothing over nothing", api.Node{}, b, api.Node{})
		expect(t, "nothing over a name", node("x", nil), b, node("x", nil))
	}
	expect(t, "full over nothing", api.Node{}, full(), changed(func(n *api.Node) { n.Name = "" }))
	expect(t, "full over full", full(), full(), full())
}

func TestTheNameStays(t *testing.T) {
	for _, of := range []string{"", "x", "x@1", "X", "a b", "/", "\x00", "\xff", strings.Repeat("n", 100)} {
		for _, over := range []string{"", "x", "y@2", "a b", "\xff"} {
			expect(t, "a name", node(of, nil), node(over, nil), node(of, nil))
			expect(t, "a name, with a property", node(of, nil), node(over, props(val("a", "x"))), node(of, props(val("a", "x"))))
		}
	}
}

func TestValuesTakeTheirPlace(t *testing.T) {
	for _, value := range []string{"", "x", "\x00", "ra", "longer than it was", strings.Repeat("\xff", api.MaxBlob+1)} {
		for i, s := range []string{"a", "b", "c"} {
			want := changed(func(n *api.Node) { n.Props[i].Value = []byte(value) })
			expect(t, "the value of "+s, full(), node("", props(val(s, value))), want)
		}
		below := func(l ...api.Prop) api.Node { return node("", nil, node("k", nil, node("leaf@1", l))) }
		want := changed(func(n *api.Node) { n.Kids[0].Kids[0].Props[1].Value = []byte(value) })
		expect(t, "a deep value", full(), below(val("z", value)), want)
	}
	want := changed(func(n *api.Node) { n.Props[1].Value = nil })
	expect(t, "no value", full(), node("", []api.Prop{{Name: "b"}}), want)
	want = changed(func(n *api.Node) { n.Props = props(val("a", "1"), val("b", "rb"), val("c", "3")) })
	expect(t, "several, in another order", full(), node("", props(val("c", "3"), val("a", "1"))), want)
}

func TestNewPropertiesComeBehind(t *testing.T) {
	for _, s := range []string{"d", "A", "#", "aa", "k", "l@1", "", "a b", "\x00", "a\x00", "\xff", strings.Repeat("n", 100)} {
		want := changed(func(n *api.Node) { n.Props = append(n.Props, val(s, "x")) })
		expect(t, "a new property "+strconv.Quote(s), full(), node("", props(val(s, "x"))), want)
		want = changed(func(n *api.Node) {
			n.Kids[0].Kids[1].Kids[0].Props = append(n.Kids[0].Kids[1].Kids[0].Props, val(s, ""))
		})
		expect(t, "a deep new property "+strconv.Quote(s), full(), node("", nil, node("k", nil, node("m", nil, node("n", props(val(s, "")))))), want)
	}
	want := changed(func(n *api.Node) {
		n.Props = props(val("a", "ra"), val("b", "1"), val("c", "rc"), val("z", "0"), val("e", "2"), val("d", ""))
	})
	expect(t, "in b's order", full(), node("", props(val("z", "0"), val("b", "1"), val("e", "2"), val("d", ""))), want)
	expect(t, "of one without", node("x", nil), node("", props(val("b", "1"), val("a", "2"))), node("x", props(val("b", "1"), val("a", "2"))))
}

func TestNodesThatAreThereAreLaidOver(t *testing.T) {
	b := node("", nil,
		node("a", props(val("e", "1"), val("d", "2"))),
		node("k", props(val("k", "3")), node("o", nil), node("m", nil, node("n", props(val("n", "4"))), node("q", nil)), node("leaf@1", props(val("y", "5")))),
	)
	want := node("full", props(val("a", "ra"), val("b", "rb"), val("c", "rc")),
		node("k", props(val("a", "ka"), val("k", "3")),
			node("leaf@1", props(val("a", "la"), val("z", "lz"), val("y", "5"))),
			node("m", nil, node("n", props(val("n", "4"))), node("q", nil)),
			node("o", nil)),
		node("l@1", nil),
		node("a", props(val("d", "2"), val("e", "1"))),
	)
	expect(t, "several levels", full(), b, want)
	want = changed(func(n *api.Node) { n.Kids[1].Kids = []api.Node{node("new", props(val("a", "")))} })
	expect(t, "one with nothing", full(), node("", nil, node("l@1", nil, node("new", props(val("a", ""))))), want)
}

func TestNewNodesComeBehind(t *testing.T) {
	grown := func(name string) api.Node {
		return node(name, props(val("z", "1"), val("a", "")), node("b", nil, node("k", props(val("k", "2")))), node("a", nil))
	}
	// A node without @ isn't that of one with it, a property isn't a node, and a node is one of those right below alone.
	for _, s := range []string{"x", "l", "l@2", "l@", "@1", "k@1", "K", "b", "m", "leaf@1", "", "full", "a b", "/", "\x00", strings.Repeat("n", 100)} {
		want := changed(func(n *api.Node) { n.Kids = append(n.Kids, grown(s)) })
		expect(t, "a new node "+strconv.Quote(s), full(), node("", nil, grown(s)), want)
		want = changed(func(n *api.Node) { n.Kids[0].Kids[1].Kids[0].Kids = []api.Node{grown(s)} })
		expect(t, "a deep new node "+strconv.Quote(s), full(), node("", nil, node("k", nil, node("m", nil, node("n", nil, grown(s))))), want)
	}
	want := changed(func(n *api.Node) {
		n.Kids[1].Props = props(val("a", "1"))
		n.Kids = append(n.Kids, node("z", nil), node("e", nil), node("d", nil))
	})
	expect(t, "in b's order", full(), node("", nil, node("z", nil), node("l@1", props(val("a", "1"))), node("e", nil), node("d", nil)), want)
}

func TestPropertiesAndNodesOfOneName(t *testing.T) {
	want := changed(func(n *api.Node) { n.Props, n.Kids = append(n.Props, val("k", "1")), append(n.Kids, node("b", nil)) })
	expect(t, "a property of a node's name, a node of a property's", full(), node("", props(val("k", "1")), node("b", nil)), want)
	a := node("x", props(val("x", "1")), node("x", props(val("x", "2")), node("x", nil)))
	b := node("x", props(val("x", "3")), node("x", nil, node("x", props(val("x", "4")))))
	want = node("x", props(val("x", "3")), node("x", props(val("x", "2")), node("x", props(val("x", "4")))))
	expect(t, "one name for all", a, b, want)
}

// Of two of a with one name the first one is laid over, and the others stay.
func TestTwoOfOneNameBelow(t *testing.T) {
	a := node("x", props(val("a", "1"), val("b", "2"), val("a", "3"), val("a", "4")))
	expect(t, "properties", a, node("", props(val("a", "5"))), node("x", props(val("a", "5"), val("b", "2"), val("a", "3"), val("a", "4"))))
	a = node("x", nil, node("l", nil), node("k", props(val("a", "1"))), node("k", props(val("a", "2"))), node("l", nil))
	want := node("x", nil, node("l", nil, node("m", nil)), node("k", props(val("a", "3"))), node("k", props(val("a", "2"))), node("l", nil))
	expect(t, "nodes", a, node("", nil, node("k", props(val("a", "3"))), node("l", nil, node("m", nil))), want)
	expect(t, "nothing over them", a, api.Node{}, a)
	expect(t, "they over themselves", a, node("", nil, a.Kids[1]), a)
}

// Two of b with one name are laid over one by one.
func TestTwoOfOneNameLaidOver(t *testing.T) {
	twice := props(val("a", "1"), val("b", "2"), val("a", "3"))
	once := props(val("a", "3"), val("b", "2"))
	expect(t, "properties, new", node("x", nil), node("", twice), node("x", once))
	expect(t, "properties that are there", node("x", props(val("b", ""), val("a", ""))), node("", twice), node("x", props(val("b", "2"), val("a", "3"))))
	two := []api.Node{node("k", props(val("a", "1")), node("m", nil)), node("l", nil), node("k", props(val("b", "2"), val("a", "3")), node("n", nil), node("m", props(val("a", "4"))))}
	one := node("k", props(val("a", "3"), val("b", "2")), node("m", props(val("a", "4"))), node("n", nil))
	expect(t, "nodes, new", node("x", nil), node("", nil, two...), node("x", nil, one, node("l", nil)))
	expect(t, "nodes that are there", node("x", nil, node("l", nil), node("k", nil)), node("", nil, two...), node("x", nil, node("l", nil), one))
	expect(t, "of both", node("x", props(val("a", "8"), val("a", "9"))), node("", twice), node("x", props(val("a", "3"), val("a", "9"), val("b", "2"))))
}

// A node of b that is new comes whole, also where two below it have one name.
func TestNewNodesComeAsTheyAre(t *testing.T) {
	twice := props(val("a", "1"), val("b", "2"), val("a", "3"))
	two := []api.Node{node("k", props(val("a", "1"))), node("l", nil), node("k", twice, node("m", nil), node("m", nil)), node("l", nil)}
	for _, fresh := range []api.Node{
		node("new", twice),
		node("new", nil, two...),
		node("new", twice, two...),
		node("new", nil, node("new", nil, node("new", twice, two...))),
		node("", props(val("", ""), val("", "")), node("", nil), node("", nil)),
	} {
		expectOnce(t, "below nothing", api.Node{}, node("", nil, fresh), node("", nil, fresh))
		expectOnce(t, "below the root", full(), node("", nil, fresh), changed(func(n *api.Node) { n.Kids = append(n.Kids, fresh) }))
		want := changed(func(n *api.Node) {
			n.Kids[0].Props[1].Value = []byte("1")
			n.Kids[0].Kids[0].Kids = []api.Node{fresh}
		})
		b := node("", nil, node("k", props(val("k", "0"), val("k", "1")), node("leaf@1", nil, fresh)))
		expectOnce(t, "further down", full(), b, want)
	}
}

// A second one of a new one's name is laid over it, and finds in it the first one of each name.
func TestNewNodesAreLaidOver(t *testing.T) {
	twice := props(val("a", "1"), val("a", "2"))
	fresh := node("new", twice, node("k", twice), node("k", nil))
	second := node("new", props(val("a", "3"), val("b", "4"), val("a", "5")), node("k", props(val("a", "6"))), node("l", twice), node("l", props(val("a", "7"))))
	want := node("new", props(val("a", "5"), val("a", "2"), val("b", "4")),
		node("k", props(val("a", "6"), val("a", "2"))), node("k", nil),
		node("l", props(val("a", "7"), val("a", "2"))))
	expectOnce(t, "two new ones", node("x", nil), node("", nil, fresh, node("o", nil), second), node("x", nil, want, node("o", nil)))
	expectOnce(t, "one that is there", node("x", nil, fresh), node("", nil, second), node("x", nil, want))
}

// chain answers a node with so many levels, each with a property.
func chain(levels int, p api.Prop) api.Node {
	n := node("c", props(p))
	for range levels - 1 {
		n = node("c", props(p), n)
	}
	return n
}

func TestDeepNodes(t *testing.T) {
	const levels = 1 << 16
	a, b := chain(levels, val("a", "1")), chain(levels, val("b", "2"))
	if got := Merge(a, b); !tree.SameNode(Merge(got, b), got) || !isChain(got, levels, props(val("a", "1"), val("b", "2"))) {
		t.Error("a deep node laid over a deep one")
	}
	if got := Merge(a, chain(levels, val("a", "3"))); !isChain(got, levels, props(val("a", "3"))) {
		t.Error("the values of a deep node")
	}
	if got := Merge(node("c", nil), b); !isChain(got, levels, props(val("b", "2"))) {
		t.Error("a deep node laid over one without anything")
	}
	if got := Merge(a, node("", nil)); !isChain(got, levels, props(val("a", "1"))) {
		t.Error("nothing laid over a deep node")
	}
}

// isChain answers whether n has so many levels, each with the properties.
func isChain(n api.Node, levels int, l []api.Prop) bool {
	for ; levels > 0; levels-- {
		alone := node("c", n.Props)
		if n.Name != "c" || !tree.SameNode(alone, node("c", l)) || len(n.Kids) != min(1, levels-1) {
			return false
		}
		if levels > 1 {
			n = n.Kids[0]
		}
	}
	return true
}

func TestWideNodes(t *testing.T) {
	const many = 1 << 17
	var a, b, want api.Node
	for i := range many {
		s := strconv.Itoa(i)
		a.Props, a.Kids = append(a.Props, val(s, "1")), append(a.Kids, node(s, nil))
	}
	for i := range many {
		s := strconv.Itoa(many + many/2 - i)
		b.Props, b.Kids = append(b.Props, val(s, "2")), append(b.Kids, node(s, props(val("p", ""))))
	}
	for i := range many {
		s := strconv.Itoa(i)
		if i <= many/2 {
			want.Props, want.Kids = append(want.Props, val(s, "1")), append(want.Kids, node(s, nil))
		} else {
			want.Props, want.Kids = append(want.Props, val(s, "2")), append(want.Kids, node(s, props(val("p", ""))))
		}
	}
	for i := many + many/2; i >= many; i-- {
		s := strconv.Itoa(i)
		want.Props, want.Kids = append(want.Props, val(s, "2")), append(want.Kids, node(s, props(val("p", ""))))
	}
	expect(t, "as many as are beyond all limits", a, b, want)
}

// model is another way than this package's: it asks of each of a's what of b lies over it, then what of b is new.
func model(a, b api.Node) api.Node {
	c := api.Node{Name: a.Name}
	seen := make(map[string]int)
	for _, p := range slices.Concat(a.Props, b.Props) {
		seen[p.Name]++
		if len(c.Props) < len(a.Props) || seen[p.Name] == 1 {
			c.Props = append(c.Props, p)
		}
		// The last one of b is what the first one of that name comes to.
		for _, q := range b.Props {
			if q.Name == p.Name && seen[p.Name] == 1 {
				c.Props[len(c.Props)-1].Value = q.Value
			}
		}
	}
	seen = make(map[string]int)
	for i, kid := range slices.Concat(a.Kids, b.Kids) {
		seen[kid.Name]++
		switch {
		case seen[kid.Name] == 1:
			// The first one of b, if it is new, is what its others of that name come to.
			over := b.Kids
			if i >= len(a.Kids) {
				over = b.Kids[i-len(a.Kids)+1:]
			}
			c.Kids = append(c.Kids, model(kid, joined(over, kid.Name)))
		case i < len(a.Kids):
			c.Kids = append(c.Kids, kid)
		}
	}
	return c
}

// joined answers all of l that have the name as one.
func joined(l []api.Node, name string) api.Node {
	var n api.Node
	for _, x := range l {
		if x.Name == name {
			n.Props, n.Kids = slices.Concat(n.Props, x.Props), slices.Concat(n.Kids, x.Kids)
		}
	}
	return n
}

// newArePlain answers whether of each node of b that comes to a as it is all below it have each name once.
func newArePlain(a, b api.Node) bool {
	for i, kid := range b.Kids {
		if tree.Kid(b, kid.Name) != i {
			continue
		}
		base, over := kid, b.Kids[i+1:]
		if j := tree.Kid(a, kid.Name); j >= 0 {
			base, over = a.Kids[j], b.Kids
		} else if !isPlain(kid) {
			return false
		}
		if !newArePlain(base, joined(over, kid.Name)) {
			return false
		}
	}
	return true
}

// isPlain answers whether each name is once in n, and below it.
func isPlain(n api.Node) bool {
	return len(firsts(n.Props, propName)) == len(n.Props) && len(firsts(n.Kids, nodeName)) == len(n.Kids) &&
		!slices.ContainsFunc(n.Kids, func(kid api.Node) bool { return !isPlain(kid) })
}

// randomNode answers a node of few names: mostly one that isn't formed, unless each name shall be there once.
func randomNode(r *rand.Rand, name string, depth int, once bool) api.Node {
	n := api.Node{Name: name}
	for _, i := range picked(r, once) {
		n.Props = append(n.Props, val([]string{"a", "b", "c", "#d", "?e"}[i], strconv.Itoa(r.IntN(100))))
	}
	if depth == 0 {
		return n
	}
	for _, i := range picked(r, once) {
		n.Kids = append(n.Kids, randomNode(r, []string{"a", "b", "c@1", "c@2", "c"}[i], depth-1, once))
	}
	return n
}

// picked answers some of 0 to 4, in any order.
func picked(r *rand.Rand, once bool) []int {
	if once {
		return r.Perm(5)[:r.IntN(5)]
	}
	l := make([]int, r.IntN(5))
	for i := range l {
		l[i] = r.IntN(5)
	}
	return l
}

// nothingIsLost answers whether all of a is in c, where it was, but for values.
func nothingIsLost(a, c api.Node) bool {
	if a.Name != c.Name || len(c.Props) < len(a.Props) || len(c.Kids) < len(a.Kids) {
		return false
	}
	for i, p := range a.Props {
		if c.Props[i].Name != p.Name {
			return false
		}
	}
	for i, kid := range a.Kids {
		if !nothingIsLost(kid, c.Kids[i]) {
			return false
		}
	}
	return true
}

func TestRandomNodes(t *testing.T) {
	r := rand.New(rand.NewPCG(10, 10))
	for i := range 30000 {
		onceA, onceB := i%3 == 0, i%3 <= 1
		a, b := randomNode(r, "x", r.IntN(4), onceA), randomNode(r, "y", r.IntN(4), onceB)
		wasA, wasB := tree.CloneNode(a), tree.CloneNode(b)
		got := Merge(a, b)
		if want := model(wasA, wasB); !tree.SameNode(got, want) {
			t.Fatalf("%v over %v: %v, not %v", b, a, got, want)
		}
		if again := Merge(got, b); newArePlain(a, b) && !tree.SameNode(again, got) {
			t.Fatalf("%v over %v: laid over twice it is %v, not %v", b, a, again, got)
		}
		if !nothingIsLost(a, got) {
			t.Fatalf("%v over %v: something is lost: %v", b, a, got)
		}
		if !tree.SameNode(a, wasA) || !tree.SameNode(b, wasB) {
			t.Fatalf("%v over %v: what was handed in is changed: %v, %v", wasB, wasA, b, a)
		}
		got.Name = ""
		if onceA && onceB && tree.Check(api.Tree{Root: got}) != api.OK {
			t.Fatalf("%v over %v: %v isn't formed", b, a, got)
		}
	}
}
