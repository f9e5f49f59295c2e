package valid

import (
	"math"
	"slices"
	"sync"
	"testing"

	"arboret/api"
	"arboret/tree"
)

// The tests of this file are R1's to R3's, of P15.1's and P15.2's calls.

// roomy answers n with spare room behind each list, of what would be wrong if it were asked.
func roomy(n api.Node) api.Node {
	c := api.Node{Name: n.Name}
	for _, p := range n.Props {
		c.Props = append(c.Props, val(p.Name, append(slices.Clone(p.Value), "spare\x00"...)[:len(p.Value)]))
	}
	for _, kid := range n.Kids {
		c.Kids = append(c.Kids, roomy(kid))
	}
	c.Props = append(c.Props, val("status", nil), texts("compatible", "none"))[:len(n.Props)]
	c.Kids = append(c.Kids, node("a", val("status", nil)), node("a"))[:len(n.Kids)]
	return c
}

// whole answers all of n, as far as its lists' room goes, in memory of its own.
func whole(n api.Node) api.Node {
	c := api.Node{Name: n.Name}
	for _, p := range n.Props[:cap(n.Props)] {
		c.Props = append(c.Props, val(p.Name, slices.Clone(p.Value[:cap(p.Value)])))
	}
	for _, kid := range n.Kids[:cap(n.Kids)] {
		c.Kids = append(c.Kids, whole(kid))
	}
	return c
}

// wrongs answers trees that are wrong, each in another way.
func wrongs() []api.Tree {
	turn := func(change func(n *api.Node)) api.Tree {
		x := machine()
		change(&x.Root)
		return x
	}
	return []api.Tree{
		turn(func(n *api.Node) {}),
		turn(func(n *api.Node) { n.Kids[1].Kids[1] = set(n.Kids[1].Kids[1], val("status", nil)) }),
		turn(func(n *api.Node) { n.Kids[1].Kids[2] = set(n.Kids[1].Kids[2], cells("interrupts", 32)) }),
		turn(func(n *api.Node) { n.Kids[2] = set(n.Kids[2], cells("reg", 0x88, 16)) }),
		turn(func(n *api.Node) { n.Kids[2] = set(n.Kids[2], to(1, 31)) }),
		turn(func(n *api.Node) { n.Kids[1].Kids[0] = set(n.Kids[1].Kids[0], to()) }),
		turn(func(n *api.Node) { n.Kids[1].Kids[0] = set(n.Kids[1].Kids[0], cells("phandle", 1)) }),
	}
}

func TestWhatIsHandedInIsLeft(t *testing.T) {
	for i, x := range wrongs() {
		want := Check(x)
		x.Root = roomy(x.Root)
		was := whole(x.Root)
		place := append(make([]int, 0, 4), 1, 1, 7)
		err := Check(x)
		_, l := Cause(err)
		for j := range l[:cap(l)] {
			l[:cap(l)][j] = "spoilt"
		}
		Of(x, place[:2])
		Enabled(x, place[:2])
		Of(x, place)
		if err != want || (want == nil) != (i == 0) {
			t.Errorf("%d: Check = %v, not %v", i, err, want)
		}
		if !tree.SameNode(whole(x.Root), was) || !slices.Equal(place[:4], []int{1, 1, 7, 0}) {
			t.Errorf("%d: what was handed in, or its spare room, is changed", i)
		}
		if err != nil && err.Error() != want.Error() {
			t.Errorf("%d: %v, and no more %v", i, err, want)
		}
	}
}

func spoil(n api.Node) {
	for _, p := range n.Props {
		clear(p.Value)
	}
	for _, kid := range n.Kids {
		spoil(kid)
	}
	clear(n.Props)
	clear(n.Kids)
}

func TestWhatIsHandedInIsNotKept(t *testing.T) {
	for i, x := range wrongs() {
		want := Check(wrongs()[i])
		err := Check(x)
		e, l := Cause(err)
		spoil(x.Root)
		f, m := Cause(err)
		if err != want || e != f || !slices.Equal(l, m) {
			t.Errorf("%d: %v, not %v, as the tree has changed", i, err, want)
		}
	}
}

func TestAnswersHangOnTheArgumentsAlone(t *testing.T) {
	all := wrongs()
	var want []error
	for _, x := range all {
		want = append(want, Check(x))
	}
	// Side by side, and in any order.
	var wg sync.WaitGroup
	for i := range 8 {
		wg.Go(func() {
			for j := range all {
				k := (i*3 + j) % len(all)
				if err := Check(all[k]); err != want[k] {
					t.Errorf("%d: Check = %v, not %v", k, err, want[k])
				}
				Of(all[k], at(1))
				Enabled(all[k], at(9))
				Cause(want[k])
			}
		})
	}
	wg.Wait()
}

// No tree makes a call panic, whatever stands in it.
func TestAnyTrees(t *testing.T) {
	odd := node("", val("compatible", []byte("arbor,ram\x00")), val("reg", nil), cells("#size-cells", math.MaxUint32), val("ranges", []byte{1}))
	for _, x := range []api.Tree{
		{Root: with(odd, odd, with(odd, odd))},
		{Root: with(api.Node{Props: []api.Prop{{}, {}}}, api.Node{}, api.Node{})},
		{Root: api.Node{Kids: make([]api.Node, 1<<17)}},
		{Reserves: make([]api.Reserve, 1<<10)},
		chain(1<<16, odd),
	} {
		if Check(x) == nil {
			t.Error("a tree that isn't formed is valid")
		}
		for _, place := range [][]int{nil, at(0), at(1), at(1, 0), at(-1), at(0, math.MaxInt), at(math.MinInt)} {
			Of(x, place)
			Enabled(x, place)
		}
	}
	// One that is formed may have any values.
	for _, name := range []string{"status", "compatible", "reg", "ranges", "interrupts", "interrupts-extended", "interrupt-parent", "interrupt-map", "phandle", "#address-cells", "#size-cells", "#interrupt-cells"} {
		for _, value := range [][]byte{nil, {0}, []byte("x"), make([]byte, 4), make([]byte, 12), slices.Repeat([]byte{0xff}, 1<<16), slices.Repeat([]byte{0xff}, 1<<16+1)} {
			x := machine()
			for i := range x.Root.Kids {
				x.Root.Kids[i] = set(x.Root.Kids[i], val(name, value))
			}
			x.Root = set(x.Root, val(name, value))
			if e, l := Cause(Check(x)); len(l) > 1 || e < api.OK || e > api.ErrFull {
				t.Error(name, value, e, l)
			}
		}
	}
}
