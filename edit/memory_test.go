package edit

import (
	"slices"
	"testing"

	"arboret/api"
	"arboret/tree"
)

// The tests of this file are R2's and R3's, of P9.1's calls.

// spoil overwrites all that a node can reach, spare room too.
func spoil(n api.Node) {
	for _, p := range n.Props[:cap(n.Props)] {
		v := p.Value[:cap(p.Value)]
		for i := range v {
			v[i] = 0xee
		}
	}
	for _, kid := range n.Kids[:cap(n.Kids)] {
		spoil(kid)
	}
	props, kids := n.Props[:cap(n.Props)], n.Kids[:cap(n.Kids)]
	for i := range props {
		props[i] = val("spoilt", "")
	}
	for i := range kids {
		kids[i] = node("spoilt", nil)
	}
}

func spoilTree(t api.Tree) {
	spoil(t.Root)
	l := t.Reserves[:cap(t.Reserves)]
	for i := range l {
		l[i] = api.Reserve{At: 99, Size: 99}
	}
}

// given is what is handed in: a tree, a place, a value and a node, with spare room behind each list.
type given struct {
	t     api.Tree
	place []int
	value []byte
	n     api.Node
}

// roomy answers given in memory of its own.
func roomy() given {
	kids := func() []api.Node {
		l := []api.Node{leaf(), node("o", nil), node("spare", props(val("spare", "spare")))}
		return l[:2:3]
	}
	own := func() []api.Prop {
		l := props(val("a", "va"), val("b", "spare"), val("spare", "spare"))
		l[1].Value = l[1].Value[:2:5]
		return l[:2:3]
	}
	x := rooted(own(), node("k", own(), kids()...), node("l@1", nil), node("spare", nil))
	x.Root.Kids = x.Root.Kids[:2:3]
	x.Reserves = x.Reserves[:1:2]
	return given{x, append(make([]int, 0, 4), 0), append(make([]byte, 0, 8), "value"...), node("new", own(), kids()...)}
}

// whole answers all of g, as far as its lists' room goes.
func whole(g given) given {
	g.t.Root, g.n = wholeNode(g.t.Root), wholeNode(g.n)
	g.t.Reserves = g.t.Reserves[:cap(g.t.Reserves)]
	g.place, g.value = g.place[:cap(g.place)], g.value[:cap(g.value)]
	return g
}

func wholeNode(n api.Node) api.Node {
	c := api.Node{Name: n.Name}
	for _, p := range n.Props[:cap(n.Props)] {
		c.Props = append(c.Props, api.Prop{Name: p.Name, Value: slices.Clone(p.Value[:cap(p.Value)])})
	}
	for _, kid := range n.Kids[:cap(n.Kids)] {
		c.Kids = append(c.Kids, wholeNode(kid))
	}
	return c
}

func sameGiven(a, b given) bool {
	return tree.Equal(a.t, b.t) && slices.Equal(a.place, b.place) && slices.Equal(a.value, b.value) && tree.SameNode(a.n, b.n)
}

type memoryCall struct {
	what string
	ask  func(g given) answer
}

func memoryCalls() []memoryCall {
	return []memoryCall{
		{"Set where it stands", func(g given) answer { return of(Set(g.t, g.place, "a", g.value)) }},
		{"Set where it stands, the last one", func(g given) answer { return of(Set(g.t, g.place, "b", g.value)) }},
		{"Set behind the others", func(g given) answer { return of(Set(g.t, g.place, "new", g.value)) }},
		{"Set of the root, behind the others", func(g given) answer { return of(Set(g.t, nil, "new", g.value)) }},
		{"Drop", func(g given) answer { return of(Drop(g.t, g.place, "a")) }},
		{"Drop of the root's", func(g given) answer { return of(Drop(g.t, nil, "b")) }},
		{"Add", func(g given) answer { return of(Add(g.t, g.place, g.n)) }},
		{"Add to the root", func(g given) answer { return of(Add(g.t, nil, g.n)) }},
		{"Remove", func(g given) answer { return of(Remove(g.t, g.place)) }},
		{"Remove of a deeper one", func(g given) answer { return of(Remove(g.t, append(g.place[:1:1], 0))) }},
	}
}

func TestWhatIsHandedInIsLeft(t *testing.T) {
	want := whole(roomy())
	for _, c := range memoryCalls() {
		g := roomy()
		got := c.ask(g)
		if got.e != api.OK || !sameGiven(whole(g), want) {
			t.Errorf("%s, %v: what was handed in, or its spare room, is changed", c.what, got.e)
		}
		spoilTree(got.t)
		if !sameGiven(whole(g), want) {
			t.Errorf("%s: what was handed in, or its spare room, changes with the answer", c.what)
		}
	}
	// Nor do errors change it.
	g := roomy()
	Set(g.t, g.place, "a b", g.value)
	Drop(g.t, g.place, "none")
	Add(g.t, nil, node("k", nil))
	Add(g.t, g.place, node("x", nil, node("", nil)))
	Remove(g.t, nil)
	Remove(g.t, []int{9})
	if !sameGiven(whole(g), want) {
		t.Error("what was handed in, or its spare room, is changed by a call that answered an error")
	}
}

func TestWhatIsHandedInIsNotKept(t *testing.T) {
	for _, c := range memoryCalls() {
		want := c.ask(roomy())
		g := roomy()
		got := c.ask(g)
		spoilTree(g.t)
		spoil(g.n)
		clear(g.value[:cap(g.value)])
		if got.e != api.OK || !tree.Equal(got.t, want.t) {
			t.Errorf("%s, %v: the answer changes with what was handed in", c.what, got.e)
		}
	}
}

// What is handed in twice is in the answer twice.
func TestOneMemoryHandedInTwice(t *testing.T) {
	x := full()
	y, e := Add(x, []int{1}, x.Root.Kids[0])
	want := tree.Clone(y)
	spoil(y.Root.Kids[1].Kids[0])
	if e != api.OK || !tree.SameNode(y.Root.Kids[0], want.Root.Kids[0]) || !tree.Equal(x, full()) {
		t.Errorf("a node that is the tree's own is added in the tree's memory: %v, %v", y, e)
	}
	y, e = Set(x, []int{1}, "new", x.Root.Props[0].Value)
	y.Root.Kids[1].Props[0].Value[0] = 'X'
	if e != api.OK || string(y.Root.Props[0].Value) != "ra" || !tree.Equal(x, full()) {
		t.Errorf("a value that is the tree's own is set in the tree's memory: %v, %v", y, e)
	}
}

// lists answers all lists below n, by what overwrites each of them and its spare room.
func lists(n api.Node) []func() {
	props, kids := n.Props[:cap(n.Props)], n.Kids[:cap(n.Kids)]
	l := []func(){func() { clear(props) }, func() { clear(kids) }}
	for _, p := range n.Props {
		l = append(l, func() { clear(p.Value[:cap(p.Value)]) })
	}
	for _, kid := range n.Kids {
		l = append(l, lists(kid)...)
	}
	return l
}

// Whoever overwrites one list of an answer leaves the others: what is left then doesn't hang on the order.
func TestListsOfAnAnswerShareNoMemory(t *testing.T) {
	for _, c := range memoryCalls() {
		for i := range lists(c.ask(roomy()).t.Root) {
			y := c.ask(roomy()).t
			was := footprints(y.Root)
			lists(y.Root)[i]()
			changed := 0
			for j, now := range was {
				if !now() {
					changed++
					if j != i {
						t.Errorf("%s: list %d changes with list %d", c.what, j, i)
					}
				}
			}
			if changed > 1 {
				t.Errorf("%s: %d lists share memory", c.what, changed)
			}
		}
	}
}

// footprints answers, in the order of lists, what tells whether each list is as it was.
func footprints(n api.Node) []func() bool {
	props, kids := n.Props, n.Kids
	names := func() []string {
		var l []string
		for _, p := range props[:cap(props)] {
			l = append(l, p.Name)
		}
		return l
	}
	below := func() []string {
		var l []string
		for _, kid := range kids[:cap(kids)] {
			l = append(l, kid.Name)
		}
		return l
	}
	propsWere, kidsWere := names(), below()
	l := []func() bool{
		func() bool { return slices.Equal(names(), propsWere) },
		func() bool { return slices.Equal(below(), kidsWere) },
	}
	for _, p := range n.Props {
		value := slices.Clone(p.Value[:cap(p.Value)])
		l = append(l, func() bool { return slices.Equal(p.Value[:cap(p.Value)], value) })
	}
	for _, kid := range n.Kids {
		l = append(l, footprints(kid)...)
	}
	return l
}

func TestAnswersHangOnTheArgumentsAlone(t *testing.T) {
	l := memoryCalls()
	var want []answer
	for _, c := range l {
		want = append(want, c.ask(roomy()))
	}
	for range 3 {
		for i, c := range slices.Backward(l) {
			if got := c.ask(roomy()); got.e != want[i].e || !tree.Equal(got.t, want[i].t) {
				t.Errorf("%s: %v, then %v", c.what, want[i], got)
			}
			Set(full(), nil, "", nil)
			Add(full(), nil, api.Node{})
		}
	}
}
