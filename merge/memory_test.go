package merge

import (
	"slices"
	"testing"

	"arboret/api"
	"arboret/tree"
)

// The tests of this file are R2's and R3's.

// spoil overwrites all that a node can reach, spare room too.
func spoil(n api.Node) {
	for _, p := range n.Props[:cap(n.Props)] {
		v := p.Value[:cap(p.Value)]
		for i := range v {
			v[i] = 0xee
		}
	}
	for _, kid := range n.Kids[:cap(n.Kids)] {
		spoil(kid)
	}
	props, kids := n.Props[:cap(n.Props)], n.Kids[:cap(n.Kids)]
	for i := range props {
		props[i] = val("spoilt", "")
	}
	for i := range kids {
		kids[i] = node("spoilt", nil)
	}
}

// roomy answers n in memory of its own, with spare room behind each list.
func roomy(n api.Node) api.Node {
	c := api.Node{Name: n.Name}
	for _, p := range n.Props {
		value := append(append(make([]byte, 0, len(p.Value)+5), p.Value...), "spare"...)
		c.Props = append(c.Props, api.Prop{Name: p.Name, Value: value[:len(p.Value)]})
	}
	for _, kid := range n.Kids {
		c.Kids = append(c.Kids, roomy(kid))
	}
	c.Props = append(c.Props, val("spare", "spare"), val("spare", "spare"))[:len(n.Props)]
	c.Kids = append(c.Kids, node("spare", props(val("spare", "spare"))), node("spare", nil))[:len(n.Kids)]
	return c
}

// whole answers all of n, as far as its lists' room goes.
func whole(n api.Node) api.Node {
	c := api.Node{Name: n.Name}
	for _, p := range n.Props[:cap(n.Props)] {
		c.Props = append(c.Props, api.Prop{Name: p.Name, Value: slices.Clone(p.Value[:cap(p.Value)])})
	}
	for _, kid := range n.Kids[:cap(n.Kids)] {
		c.Kids = append(c.Kids, whole(kid))
	}
	return c
}

type pair struct {
	what string
	a, b api.Node
}

func pairs() []pair {
	b := node("y", props(val("b", "1"), val("new", "2")),
		node("l@1", props(val("a", "3"))),
		node("new", props(val("a", "4")), node("new", props(val("a", "5")))),
		node("k", props(val("k", "6")), node("new", nil), node("leaf@1", props(val("z", "7"), val("y", "8")))),
	)
	var l []pair
	for _, p := range []pair{
		{"one over another", full(), b},
		{"one over nothing", api.Node{}, b},
		{"nothing over one", full(), api.Node{}},
		{"one over itself", full(), full()},
		{"two of one name", node("x", nil, full(), full()), node("y", nil, full(), b, full(), b)},
		{"properties alone", node("x", props(val("a", "1"))), node("y", props(val("a", "2"), val("b", "3")))},
	} {
		l = append(l, pair{p.what, roomy(p.a), roomy(p.b)})
	}
	return l
}

func TestWhatIsHandedInIsLeft(t *testing.T) {
	for _, p := range pairs() {
		a, b := whole(p.a), whole(p.b)
		got := Merge(p.a, p.b)
		if !tree.SameNode(whole(p.a), a) || !tree.SameNode(whole(p.b), b) {
			t.Errorf("%s: what was handed in, or its spare room, is changed", p.what)
		}
		spoil(got)
		if !tree.SameNode(whole(p.a), a) || !tree.SameNode(whole(p.b), b) {
			t.Errorf("%s: what was handed in, or its spare room, changes with the answer", p.what)
		}
	}
}

func TestWhatIsHandedInIsNotKept(t *testing.T) {
	for _, p := range pairs() {
		got := Merge(p.a, p.b)
		want := tree.CloneNode(got)
		spoil(p.a)
		spoil(p.b)
		if !tree.SameNode(got, want) {
			t.Errorf("%s: the answer changes with what was handed in", p.what)
		}
	}
}

// What is handed in twice is in the answer twice.
func TestOneMemoryHandedInTwice(t *testing.T) {
	x := full()
	got := Merge(x, node("", nil, node("k", x.Props), node("new", x.Props, x.Kids...)))
	want := tree.CloneNode(got)
	spoil(got.Kids[3])
	for i := range 3 {
		if !tree.SameNode(got.Kids[i], want.Kids[i]) {
			t.Errorf("a node that is the other's own is laid over it in its memory: %v", got.Kids[i])
		}
	}
	if !tree.SameNode(x, full()) {
		t.Errorf("a node that is laid over itself is changed: %v", x)
	}
	p := props(val("a", "1"))
	got = Merge(node("", nil), node("", nil, node("k", p), node("l", p)))
	got.Kids[0].Props[0].Value[0] = 'x'
	if string(got.Kids[1].Props[0].Value) != "1" || string(p[0].Value) != "1" {
		t.Errorf("one value laid over twice is in one memory: %v, %v", got, p)
	}
}

// lists answers all lists below n, by what overwrites each of them and its spare room.
func lists(n api.Node) []func() {
	props, kids := n.Props[:cap(n.Props)], n.Kids[:cap(n.Kids)]
	l := []func(){func() { clear(props) }, func() { clear(kids) }}
	for _, p := range n.Props {
		l = append(l, func() { clear(p.Value[:cap(p.Value)]) })
	}
	for _, kid := range n.Kids {
		l = append(l, lists(kid)...)
	}
	return l
}

// Whoever overwrites one list of an answer leaves the others.
func TestListsOfAnAnswerShareNoMemory(t *testing.T) {
	for k, p := range pairs() {
		for i := range lists(Merge(p.a, p.b)) {
			got := Merge(pairs()[k].a, pairs()[k].b)
			was := footprints(got)
			lists(got)[i]()
			for j, now := range was {
				if j != i && !now() {
					t.Errorf("%s: list %d changes with list %d", p.what, j, i)
				}
			}
		}
	}
}

// footprints answers, in the order of lists, what tells whether each list is as it was.
func footprints(n api.Node) []func() bool {
	props, kids := n.Props, n.Kids
	names := func() []string {
		var l []string
		for _, p := range props[:cap(props)] {
			l = append(l, p.Name)
		}
		return l
	}
	below := func() []string {
		var l []string
		for _, kid := range kids[:cap(kids)] {
			l = append(l, kid.Name)
		}
		return l
	}
	propsWere, kidsWere := names(), below()
	l := []func() bool{
		func() bool { return slices.Equal(names(), propsWere) },
		func() bool { return slices.Equal(below(), kidsWere) },
	}
	for _, p := range n.Props {
		value := slices.Clone(p.Value[:cap(p.Value)])
		l = append(l, func() bool { return slices.Equal(p.Value[:cap(p.Value)], value) })
	}
	for _, kid := range n.Kids {
		l = append(l, footprints(kid)...)
	}
	return l
}

func TestAnswersHangOnTheArgumentsAlone(t *testing.T) {
	l := pairs()
	var want []api.Node
	for _, p := range l {
		want = append(want, Merge(p.a, p.b))
	}
	for range 3 {
		for i, p := range slices.Backward(l) {
			if got := Merge(p.a, p.b); !tree.SameNode(got, want[i]) {
				t.Errorf("%s: %v, then %v", p.what, want[i], got)
			}
		}
	}
}
