package valid

import (
	"math/big"
	"math/rand/v2"
	"slices"
	"strconv"
	"testing"

	"arboret/api"
	"arboret/handle"
	"arboret/irq"
	"arboret/path"
	"arboret/prop"
	"arboret/region"
	"arboret/tree"
	"arboret/xlate"
)

// The tests of this file hold the calls against a model that takes the chapter's sentences one by one, by the layers below.

// model asks one tree.
type model struct{ t api.Tree }

func (m model) get(place []int) api.Node {
	n, _ := path.Get(m.t, place)
	return n
}

// own answers whether the node's status lets it be enabled, and whether it is a text, if it is there.
func (m model) own(place []int) (on, right bool) {
	b, ok := tree.Find(m.get(place), "status")
	if !ok {
		return true, true
	}
	s, e := prop.Text(b)
	return e == api.OK && (s == "okay" || s == "ok"), e == api.OK
}

func (m model) enabled(place []int) bool {
	on, _ := m.own(place)
	return on && (len(place) == 0 || m.enabled(place[:len(place)-1]))
}

// kind answers what the node is, None if its compatible isn't texts.
func (m model) kind(place []int) Kind {
	b, _ := tree.Find(m.get(place), "compatible")
	l, _ := prop.Texts(b)
	for _, s := range l {
		if i := slices.Index([]string{"simple-bus", "arbor,ram", "arbor,uart", "arbor,clock", "arbor,gpio", "arbor,rtc", "arbor,ctrl"}, s); i >= 0 {
			return Kind(i + 1)
		}
	}
	return None
}

// fits answers whether the numbers' sum is at most 2^64.
func fits(l ...uint64) bool {
	sum := new(big.Int)
	for _, v := range l {
		sum.Add(sum, new(big.Int).SetUint64(v))
	}
	return sum.Cmp(new(big.Int).Lsh(big.NewInt(1), 64)) <= 0
}

func (m model) askBus(place []int) api.Errno {
	l, ok, e := xlate.Ranges(m.get(place[:len(place)-1]), m.get(place))
	if e != api.OK {
		return e
	}
	for _, r := range l {
		ok = ok && fits(r.Below, r.Size) && fits(r.Above, r.Size)
	}
	if !ok {
		return api.ErrRange
	}
	return api.OK
}

func (m model) askDevice(place []int) api.Errno {
	for i := 1; i < len(place); i++ {
		if m.kind(place[:i]) != Bus {
			return api.ErrKnown
		}
	}
	kind := m.kind(place)
	l, e := xlate.Windows(m.t, place)
	if e != api.OK {
		return e
	}
	if len(l) != 1 || !fits(l[0].At, l[0].Size) {
		return api.ErrRange
	}
	least, most := uint64(16), uint64(16)
	switch kind {
	case GPIO:
		least, most = 32, 32
	case RAM:
		least, most = 1, 65536
	}
	if l[0].Size < least || l[0].Size > most {
		return api.ErrRange
	}
	lines, e := irq.Lines(m.t, place)
	if e != api.OK {
		return e
	}
	if kind == Ctrl && !irq.Controller(m.get(place)) || kind == RAM && len(lines) > 0 || len(lines) > 1 {
		return api.ErrForm
	}
	if len(lines) == 0 {
		return api.OK
	}
	_, way, e := irq.Root(m.t, lines[0])
	if e != api.OK {
		return e
	}
	for _, l := range way {
		if l.Line > 31 {
			return api.ErrRange
		}
	}
	for _, l := range way {
		if m.kind(l.Place) != Ctrl || !m.enabled(l.Place) {
			return api.ErrKnown
		}
	}
	return api.OK
}

func (m model) ask(place []int) api.Errno {
	if _, right := m.own(place); !right {
		return api.ErrForm
	}
	if !m.enabled(place) {
		return api.OK
	}
	b, ok := tree.Find(m.get(place), "compatible")
	if _, e := prop.Texts(b); e != api.OK {
		return api.ErrForm
	}
	switch m.kind(place) {
	case None:
		if ok {
			return api.ErrKnown
		}
		return api.OK
	case Bus:
		return m.askBus(place)
	}
	return m.askDevice(place)
}

// meets answers whether two of what stands right below the place meet.
func (m model) meets(place []int) bool {
	var l []region.Window
	n := m.get(place)
	for i, kid := range n.Kids {
		at := append(slices.Clone(place), i)
		if !m.enabled(at) || m.kind(at) == None {
			continue
		}
		if m.kind(at) != Bus {
			w, _ := region.Reg(n, kid)
			l = append(l, w...)
			continue
		}
		ranges, _, _ := xlate.Ranges(n, kid)
		for _, r := range ranges {
			l = append(l, region.Window{At: r.Above, Size: r.Size})
		}
	}
	for i := range l {
		for j := range i {
			if region.Meet(l[i], l[j]) {
				return true
			}
		}
	}
	return false
}

// check answers the first error, and the place of which it was asked, nil of the whole tree.
func (m model) check() (api.Errno, []int) {
	if e := tree.Check(m.t); e != api.OK {
		return e, nil
	}
	if _, e := handle.Index(m.t); e != api.OK {
		return e, nil
	}
	all := path.All(m.t)
	for _, place := range all[1:] {
		if e := m.ask(place); e != api.OK {
			return e, place
		}
	}
	var taken []irq.Line
	lineless := 0
	for _, place := range all {
		if m.enabled(place) && (len(place) == 0 || m.kind(place) == Bus) && m.meets(place) {
			return api.ErrOverlap, append([]int{}, place...)
		}
	}
	for _, place := range all {
		if !m.enabled(place) || m.kind(place) == None || m.kind(place) == Bus {
			continue
		}
		// Only the root's may be wrong by now.
		lines, _ := irq.Lines(m.t, place)
		for _, own := range lines {
			l, e := irq.Through(m.t, own)
			if e != api.OK {
				continue
			}
			if slices.ContainsFunc(taken, func(o irq.Line) bool { return o.Line == l.Line && slices.Equal(o.Place, l.Place) }) {
				return api.ErrTwice, append([]int{}, l.Place...)
			}
			taken = append(taken, l)
		}
		if m.kind(place) == Ctrl && len(lines) == 0 {
			lineless++
		}
	}
	if lineless > 1 {
		return api.ErrArg, nil
	}
	return api.OK, nil
}

// maker makes machines: of each bus the first address that is free yet, of each handle how many lines are taken.
type maker struct {
	*rand.Rand
	nodes int
	taken []uint32
}

func (m *maker) name(base string) string {
	m.nodes++
	return base + "@" + strconv.Itoa(m.nodes)
}

// line answers properties that say a line at a ctrl there is, or by a nexus.
func (m *maker) line() []api.Prop {
	if len(m.taken) == 0 || m.IntN(5) == 0 {
		return nil
	}
	h := m.IntN(len(m.taken))
	m.taken[h]++
	v := uint32(m.taken[h] - 1)
	handle := uint32(h + 1)
	if m.IntN(3) == 0 {
		// The nexuses have handles above these, and add 7 to each line.
		handle, v = handle+1000, v+7
	}
	if m.IntN(2) == 0 {
		return []api.Prop{to(handle, v)}
	}
	return []api.Prop{cells("interrupts", v), cells("interrupt-parent", handle)}
}

func (m *maker) device(free *uint32) api.Node {
	kind := []string{"ram", "uart", "clock", "gpio", "rtc", "ctrl"}[m.IntN(6)]
	size := uint32(Size(Known("arbor," + kind)))
	if kind == "ram" {
		size = 1 + m.Uint32N(99)
	}
	*free += m.Uint32N(3)
	n := device(m.name(kind), kind, *free, size)
	*free += size
	switch {
	case kind == "ctrl":
		own := m.line()
		for len(own) == 0 && len(m.taken) > 0 {
			own = m.line()
		}
		m.taken = append(m.taken, 0)
		n = ctrl(n.Name, 0, uint32(len(m.taken)), append(own, n.Props[1])...)
	case kind != "ram":
		n = set(n, m.line()...)
	}
	return n
}

// bus answers a bus of several nodes, which begins below somewhere else than above.
func (m *maker) bus(levels int, free *uint32) api.Node {
	from := m.Uint32N(1 << 10)
	at := from
	kids := m.kids(levels, &at)
	n := bridge(m.name("bus"), slices.Concat(span(from, *free, at-from), span(1, 2, 0)), kids...)
	*free += at - from
	return n
}

func (m *maker) kids(levels int, free *uint32) []api.Node {
	var l []api.Node
	for range 1 + m.IntN(6) {
		switch m.IntN(4) {
		case 0:
			if levels > 0 {
				l = append(l, m.bus(levels-1, free))
			}
		case 1:
			if m.IntN(3) == 0 {
				l = append(l, node(m.name("n"), texts("status", "ok")))
			}
		default:
			l = append(l, m.device(free))
		}
	}
	return l
}

func (m *maker) machine() api.Tree {
	m.nodes, m.taken = 0, nil
	var free uint32
	x := rooted(m.kids(3, &free)...)
	for h := range m.taken {
		var l []uint32
		for v := range uint32(40) {
			l = append(l, v+7, uint32(h+1), v)
		}
		x.Root.Kids = append(x.Root.Kids, nexus(m.name("nexus"), uint32(h+1001), l...))
	}
	return x
}

// spoil changes something somewhere.
func (m *maker) spoil(x *api.Tree) {
	all := path.All(*x)
	n := &x.Root
	for _, i := range all[m.IntN(len(all))] {
		n = &n.Kids[i]
	}
	n.Props = slices.Clone(n.Props)
	some := []string{"simple-bus", "arbor,ram", "arbor,uart", "arbor,ctrl", "none", "x"}
	fresh := []api.Prop{
		texts("status", []string{"okay", "disabled", "ok"}[m.IntN(3)]), val("status", nil), texts("compatible", some[m.IntN(6)], some[m.IntN(6)]),
		val("compatible", []byte("x")), cells("reg", m.Uint32N(200), 16), cells("reg", m.Uint32()), to(1+m.Uint32N(4), m.Uint32N(40)), to(1001, 7, 2, 3), to(77, 1),
		cells("ranges", m.Uint32N(200), m.Uint32N(200), m.Uint32N(200)), cells("ranges"), cells("ranges", 0, m.Uint32(), m.Uint32()), cells("phandle", 1+m.Uint32N(5)),
		cells("#address-cells", m.Uint32N(4)), cells("#interrupt-cells", m.Uint32N(3)), cells("interrupt-parent", m.Uint32N(5)), cells("interrupts", m.Uint32N(40)),
	}
	other, _ := path.Get(*x, all[m.IntN(len(all))])
	switch i := m.IntN(len(fresh) + 20); {
	case i < len(fresh):
		*n = set(*n, fresh[i])
	case i < len(fresh)+3 && len(n.Props) > 0:
		k := m.IntN(len(n.Props))
		n.Props = slices.Delete(n.Props, k, k+1)
	case i < len(fresh)+4:
		n.Name += "x"
	case i < len(fresh)+10:
		*n = drop(drop(*n, "interrupts"), "interrupts-extended")
	case i < len(fresh)+15:
		// Another one's lines.
		for _, name := range []string{"interrupts", "interrupts-extended", "interrupt-parent"} {
			if b, ok := tree.Find(other, name); ok {
				*n = set(drop(*n, "interrupts-extended"), val(name, b))
			}
		}
	case i < len(fresh)+16:
		// Its own lines.
		if h, ok, _ := prop.One(*n, "phandle"); ok {
			*n = set(*n, to(h, 1))
		}
	default:
		if i, ok := tree.Find(*n, "reg"); ok && len(i) == 8 {
			*n = set(*n, cells("reg", uint32(i[3])+m.Uint32N(9), uint32(i[7])))
		}
	}
}

// tally counts how often each error was asked of the whole tree, the root, or another node.
type tally map[[2]int]int

func (y tally) hold(t *testing.T, x api.Tree) {
	t.Helper()
	want, place := model{x}.check()
	var paths []string
	if place != nil {
		p, _ := path.Path(x, place)
		paths = []string{p}
	}
	err := Check(x)
	if e, l := Cause(err); e != want || !slices.Equal(l, paths) || (err == nil) != (want == api.OK) {
		t.Fatalf("Check(%v) = %v: %v, %q, not %v, %q", x, err, e, l, want, paths)
	}
	y[[2]int{int(want), len(paths) + min(len(place), 1)}]++
}

func (y tally) holdNodes(t *testing.T, x api.Tree) {
	t.Helper()
	m := model{x}
	for _, place := range path.All(x) {
		b, _ := tree.Find(m.get(place), "compatible")
		_, want := prop.Texts(b)
		if k, e := Of(x, place); k != m.kind(place) || e != want {
			t.Fatalf("Of(%v, %v) = %v, %v", x, place, k, e)
		}
		want = api.OK
		for i := range len(place) + 1 {
			if _, right := m.own(place[:i]); !right {
				want = api.ErrForm
			}
		}
		if on, e := Enabled(x, place); on != (m.enabled(place) && want == api.OK) || e != want {
			t.Fatalf("Enabled(%v, %v) = %v, %v", x, place, on, e)
		}
	}
}

func TestRandomMachines(t *testing.T) {
	m := &maker{Rand: rand.New(rand.NewPCG(15, 2))}
	y := tally{}
	for range 1500 {
		x := m.machine()
		y.hold(t, x)
		if err := Check(x); err != nil && slices.Max(append(m.taken, 0)) <= api.MaxLines {
			t.Fatalf("Check(%v) = %v", x, err)
		}
		for range 1 + m.IntN(6) {
			m.spoil(&x)
			y.hold(t, x)
		}
		y.holdNodes(t, x)
	}
	// What the machines are to be good for: 0 is the whole tree, 1 the root, 2 another node.
	for of, l := range [][]api.Errno{
		{api.OK, api.ErrName, api.ErrTwice, api.ErrArg}, {api.ErrOverlap},
		{api.ErrForm, api.ErrNone, api.ErrCells, api.ErrHandle, api.ErrRange, api.ErrOverlap, api.ErrLoop, api.ErrKnown, api.ErrTwice},
	} {
		for _, e := range l {
			if y[[2]int{int(e), of}] < 10 {
				t.Errorf("%v of %d came only %d times", e, of, y[[2]int{int(e), of}])
			}
		}
	}
}
