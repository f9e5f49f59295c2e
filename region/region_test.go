package region

import (
	"math"
	"math/rand/v2"
	"slices"
	"strconv"
	"testing"

	"arboret/api"
	"arboret/prop"
	"arboret/tree"
)

// The tests of these files are P12.1's, and, of its calls, the rules R1 to R6's.

func val(name string, value []byte) api.Prop { return api.Prop{Name: name, Value: value} }

func cell(name string, v uint32) api.Prop { return val(name, prop.FromCells(v)) }

func having(props ...api.Prop) api.Node { return api.Node{Name: "n", Props: props} }

// counting answers a node with both counts, among other properties.
func counting(address, size uint32) api.Node {
	return having(cell("ranges", 9), cell("#size-cells", size), val("status", nil), cell("#address-cells", address))
}

func reg(cells ...uint32) api.Node { return regOf(prop.FromCells(cells...)) }

// regOf answers a node whose reg is these bytes, among other properties.
func regOf(value []byte) api.Node {
	return having(val("status", []byte{1}), val("reg", value), cell("phandle", 3))
}

// notOneCell are values that aren't one cell.
func notOneCell() [][]byte {
	return [][]byte{nil, {}, {1}, {0, 1}, {0, 0, 1}, {0, 0, 0, 1, 0}, {0, 0, 0, 1, 0, 0, 0, 1}, make([]byte, 8), make([]byte, 12), make([]byte, api.MaxBlob)}
}

func expectCounts(t *testing.T, what string, n api.Node, address, size int) {
	t.Helper()
	if a, s, e := Counts(n); a != address || s != size || e != api.OK {
		t.Errorf("%s: Counts = %d, %d, %v, not %d, %d", what, a, s, e, address, size)
	}
}

// refuseCounts asks Counts, and Reg of one with windows and one without.
func refuseCounts(t *testing.T, what string, n api.Node) {
	t.Helper()
	if a, s, e := Counts(n); a != 0 || s != 0 || e != api.ErrCells {
		t.Errorf("%s: Counts = %d, %d, %v", what, a, s, e)
	}
	for _, x := range []api.Node{reg(1, 2, 3), reg(1, 2, 3, 4), reg()} {
		if l, e := Reg(n, x); len(l) != 0 || e != api.ErrCells {
			t.Errorf("%s: Reg = %v, %v", what, l, e)
		}
	}
	if l, e := Reg(n, having(cell("status", 1))); len(l) != 0 || e != api.OK {
		t.Errorf("%s: Reg without a reg = %v, %v", what, l, e)
	}
}

func expectReg(t *testing.T, what string, parent, n api.Node, want ...Window) {
	t.Helper()
	if l, e := Reg(parent, n); !slices.Equal(l, want) || e != api.OK {
		t.Errorf("%s: Reg = %v, %v, not %v", what, l, e, want)
	}
}

func refuseReg(t *testing.T, what string, parent, n api.Node) {
	t.Helper()
	if l, e := Reg(parent, n); len(l) != 0 || e != api.ErrCells {
		t.Errorf("%s: Reg = %v, %v", what, l, e)
	}
}

func TestCounts(t *testing.T) {
	expectCounts(t, "nothing", api.Node{}, 2, 1)
	expectCounts(t, "lists of no elements", api.Node{Props: []api.Prop{}, Kids: []api.Node{}}, 2, 1)
	for v := range uint32(api.MaxCells + 1) {
		what := strconv.Itoa(int(v))
		expectCounts(t, what+" of an address alone", having(cell("#address-cells", v)), int(v), 1)
		expectCounts(t, what+" of a size alone", having(cell("#size-cells", v)), 2, int(v))
		for s := range uint32(api.MaxCells + 1) {
			expectCounts(t, what+" and another", counting(v, s), int(v), int(s))
		}
	}
}

func TestCountsOfOtherNames(t *testing.T) {
	others := having(cell("address-cells", 0), cell("size-cells", 0), cell("#Address-cells", 0), cell("#SIZE-CELLS", 0), cell("#address-cell", 9), cell("#size-cells0", 9), val("#size-cells\x00", nil), val("#interrupt-cells", nil), val("", nil))
	expectCounts(t, "others", others, 2, 1)
	below := api.Node{Name: "#size-cells", Kids: []api.Node{counting(1, 0), having(val("#address-cells", nil)), {Name: "#address-cells"}}}
	expectCounts(t, "those below", below, 2, 1)
}

func TestCountsThatMayNotBe(t *testing.T) {
	wrong := notOneCell()
	// The first two of these are 1 and 2 with their least byte first.
	for _, v := range []uint32{1 << 24, 2 << 24, 3, 4, 255, 256, 257, 1 << 16, 1<<16 + 1, math.MaxInt32, 1 << 31, 1<<31 + 1, math.MaxUint32 - 1, math.MaxUint32} {
		wrong = append(wrong, prop.FromCells(v))
	}
	for _, value := range wrong {
		what := strconv.Itoa(len(value)) + " bytes"
		address, size := val("#address-cells", value), val("#size-cells", value)
		refuseCounts(t, what+" of an address alone", having(address))
		refuseCounts(t, what+" of a size alone", having(size))
		refuseCounts(t, what+" of an address", having(address, cell("#size-cells", 1)))
		refuseCounts(t, what+" of a size", having(cell("#address-cells", 1), size))
		refuseCounts(t, what+" of both", having(address, size))
	}
}

// Of several properties of one name, which a formed tree hasn't, the first one is asked, as layer 7's One asks it.
func TestSeveralOfOneName(t *testing.T) {
	expectCounts(t, "right ahead", having(cell("#address-cells", 1), cell("#address-cells", 9), cell("#size-cells", 0), val("#size-cells", nil)), 1, 0)
	refuseCounts(t, "wrong ahead", having(cell("#address-cells", 9), cell("#address-cells", 1)))
	expectReg(t, "several regs", counting(1, 1), having(val("reg", prop.FromCells(1, 2)), val("reg", []byte{1})), Window{1, 2})
	refuseReg(t, "several regs", counting(1, 1), having(val("reg", []byte{1}), val("reg", prop.FromCells(1, 2))))
}

func TestReg(t *testing.T) {
	const big = math.MaxUint32
	for _, c := range []struct {
		what      string
		parent, n api.Node
		want      []Window
	}{
		{"no counts said", api.Node{}, reg(1, 2, 3), []Window{{1<<32 + 2, 3}}},
		{"no counts said, two", api.Node{}, reg(0, 2, 3, 4, 5, 6), []Window{{2, 3}, {4<<32 + 5, 6}}},
		{"an address's alone said", having(cell("#address-cells", 1)), reg(1, 2), []Window{{1, 2}}},
		{"a size's alone said", having(cell("#size-cells", 2)), reg(1, 2, 3, 4), []Window{{1<<32 + 2, 3<<32 + 4}}},
		{"1 and 0", counting(1, 0), reg(7, 8, 7), []Window{{7, 0}, {8, 0}, {7, 0}}},
		{"1 and 1", counting(1, 1), reg(2, 3, 4, 5), []Window{{2, 3}, {4, 5}}},
		{"1 and 2", counting(1, 2), reg(2, 3, 4), []Window{{2, 3<<32 + 4}}},
		{"2 and 0", counting(2, 0), reg(1, 2, 3, 4), []Window{{1<<32 + 2, 0}, {3<<32 + 4, 0}}},
		{"2 and 1", counting(2, 1), reg(1, 2, 3), []Window{{1<<32 + 2, 3}}},
		{"2 and 2", counting(2, 2), reg(1, 2, 3, 4), []Window{{1<<32 + 2, 3<<32 + 4}}},
		{"noughts", counting(2, 2), reg(0, 0, 0, 0), []Window{{}}},
		{"noughts at an address", counting(1, 1), reg(5, 0), []Window{{5, 0}}},
		// What goes beyond the last address is for others to refuse.
		{"the greatest", counting(2, 2), reg(big, big, big, big), []Window{{math.MaxUint64, math.MaxUint64}}},
		{"the greatest of one cell", counting(1, 1), reg(big, big), []Window{{big, big}}},
		{"those that meet, and come down", counting(1, 1), reg(8, 8, 8, 8, 4, 8), []Window{{8, 8}, {8, 8}, {4, 8}}},
		{"no bytes", counting(1, 1), reg(), nil},
		{"no bytes, no counts said", api.Node{}, reg(), nil},
		{"no reg", counting(1, 1), having(cell("Reg", 1), cell("regs", 1), cell("", 1)), nil},
		{"no properties", counting(1, 1), api.Node{}, nil},
		{"the reg of one below, and of a name", counting(1, 1), api.Node{Name: "reg", Kids: []api.Node{reg(1, 2), {Name: "reg"}}}, nil},
	} {
		expectReg(t, c.what, c.parent, c.n, c.want...)
	}
}

// The counts of a node are of those below it, not its own.
func TestRegIsOfTheParentsCounts(t *testing.T) {
	n := reg(1, 2, 3)
	n.Props = append(n.Props, cell("#address-cells", 1), cell("#size-cells", 9))
	expectReg(t, "its own", counting(2, 1), n, Window{1<<32 + 2, 3})
	parent := reg(1)
	parent.Kids = []api.Node{counting(1, 0), reg(5, 6, 7)}
	expectReg(t, "those beside it", parent, reg(1, 2, 3), Window{1<<32 + 2, 3})
}

func TestRegsOfAllLengths(t *testing.T) {
	for a := range uint32(api.MaxCells + 1) {
		for s := range uint32(api.MaxCells + 1) {
			for length := range 70 {
				what := strconv.Itoa(length) + " bytes, of " + strconv.Itoa(int(a)) + " and " + strconv.Itoa(int(s))
				n := regOf(make([]byte, length))
				each := int(a+s) * 4
				if a == 0 || length%each != 0 {
					refuseReg(t, what, counting(a, s), n)
				} else {
					expectReg(t, what, counting(a, s), n, make([]Window, length/each)...)
				}
			}
		}
	}
}

func TestLongRegs(t *testing.T) {
	cells := make([]uint32, 3<<16)
	want := make([]Window, 1<<16)
	for i := range want {
		hi, lo, size := uint32(i)*0x9e3779b1, uint32(i)^0x80abcdef, uint32(i)*0x85ebca6b
		cells[3*i], cells[3*i+1], cells[3*i+2] = hi, lo, size
		want[i] = Window{uint64(hi)*(1<<32) + uint64(lo), uint64(size)}
	}
	if l, e := Reg(counting(2, 1), reg(cells...)); e != api.OK || !slices.Equal(l, want) {
		t.Errorf("Reg of %d cells = %d windows, %v", len(cells), len(l), e)
	}
	refuseReg(t, "one cell less", counting(2, 1), reg(cells[1:]...))
	refuseReg(t, "one byte more", counting(2, 1), regOf(append(prop.FromCells(cells...), 0)))
}

// modelCount tells a count by the bytes of the property.
func modelCount(n api.Node, name string, unsaid int) (int, bool) {
	for _, p := range n.Props {
		if p.Name == name {
			if len(p.Value) != 4 || p.Value[0]|p.Value[1]|p.Value[2] != 0 || p.Value[3] > 2 {
				return 0, false
			}
			return int(p.Value[3]), true
		}
	}
	return unsaid, true
}

// modelReg tells what Reg says, byte by byte.
func modelReg(parent, n api.Node) ([]Window, api.Errno) {
	i := slices.IndexFunc(n.Props, func(p api.Prop) bool { return p.Name == "reg" })
	if i < 0 {
		return nil, api.OK
	}
	a, ok := modelCount(parent, "#address-cells", 2)
	s, fine := modelCount(parent, "#size-cells", 1)
	if !ok || !fine || a == 0 {
		return nil, api.ErrCells
	}
	b := n.Props[i].Value
	number := func(cells int) uint64 {
		var v uint64
		for _, x := range b[:4*cells] {
			v = v*256 + uint64(x)
		}
		b = b[4*cells:]
		return v
	}
	var l []Window
	for len(b) > 0 {
		if len(b) < 4*(a+s) {
			return nil, api.ErrCells
		}
		at := number(a)
		l = append(l, Window{at, number(s)})
	}
	return l, api.OK
}

// random answers a node, of which some properties are there, and some wrong.
func random(r *rand.Rand) api.Node {
	var props []api.Prop
	for _, name := range []string{"#address-cells", "#size-cells"} {
		switch r.IntN(10) {
		case 0, 1, 2:
		case 3:
			props = append(props, val(name, make([]byte, r.IntN(9))))
		default:
			props = append(props, cell(name, r.Uint32N(4)))
		}
	}
	if r.IntN(8) > 0 {
		value := make([]byte, r.IntN(8)*4)
		if r.IntN(8) == 0 {
			value = make([]byte, r.IntN(40))
		}
		for i := range value {
			value[i] = byte(r.Uint32())
		}
		props = append(props, val("reg", value))
	}
	r.Shuffle(len(props), func(i, j int) { props[i], props[j] = props[j], props[i] })
	return having(props...)
}

func TestRandomNodes(t *testing.T) {
	r := rand.New(rand.NewPCG(12, 12))
	var right, wrong int
	for range 20000 {
		parent, n := random(r), random(r)
		want, f := modelReg(parent, n)
		l, e := Reg(parent, n)
		if e != f || !slices.Equal(l, want) {
			t.Fatalf("Reg(%v, %v) = %v, %v, not %v, %v", parent, n, l, e, want, f)
		}
		if len(want) > 1 {
			right++
		}
		if f != api.OK {
			wrong++
		}
	}
	if right < 1000 || wrong < 1000 {
		t.Errorf("only %d regs of several windows, and %d that are wrong", right, wrong)
	}
}

func TestDeepAndWideNodes(t *testing.T) {
	deep := counting(1, 1)
	for range 1<<16 - 1 {
		deep = api.Node{Props: counting(1, 1).Props, Kids: []api.Node{deep}}
	}
	expectCounts(t, "deep", deep, 1, 1)
	var wide api.Node
	for i := range api.MaxProps + 10 {
		wide.Props = append(wide.Props, val("p"+strconv.Itoa(i), []byte{1}))
	}
	expectCounts(t, "wide", wide, 2, 1)
	wide.Props = append(wide.Props, val("reg", prop.FromCells(1, 2)), cell("#address-cells", 1))
	expectCounts(t, "wide, and said last", wide, 1, 1)
	expectReg(t, "wide", deep, wide, Window{1, 2})
}

func TestWhatIsHandedInIsLeft(t *testing.T) {
	room := []byte("\x00\x00\x00\x01spare")
	cells := append(prop.FromCells(1, 2, 3, 4), "spare"...)
	props := []api.Prop{val("#address-cells", room[:4]), val("spare", []byte{9})}
	own := []api.Prop{val("reg", cells[:16]), val("spare", []byte{8})}
	parent, n := having(props[:1]...), having(own[:1]...)
	Counts(parent)
	l, _ := Reg(parent, n)
	clear(l[:cap(l)])
	if string(room) != "\x00\x00\x00\x01spare" || string(cells) != string(prop.FromCells(1, 2, 3, 4))+"spare" {
		t.Errorf("the values, or their spare room, are changed: %q, %q", room, cells)
	}
	if !tree.SameNode(having(props...), having(val("#address-cells", room[:4]), val("spare", []byte{9}))) || !tree.SameNode(having(own...), having(val("reg", cells[:16]), val("spare", []byte{8}))) {
		t.Errorf("the nodes, or their spare room, are changed: %v, %v", props, own)
	}
}

func TestAnswersAreNewMemory(t *testing.T) {
	parent, n := counting(1, 1), reg(1, 2, 3, 4)
	want := []Window{{1, 2}, {3, 4}}
	a, _ := Reg(parent, n)
	b, _ := Reg(parent, n)
	for i := range a[:cap(a)] {
		a[:cap(a)][i] = Window{9, 9}
	}
	if !slices.Equal(b, want) {
		t.Errorf("an answer changes with another one: %v", b)
	}
	for _, p := range slices.Concat(parent.Props, n.Props) {
		clear(p.Value)
	}
	if !slices.Equal(b, want) {
		t.Errorf("an answer changes with what was handed in: %v", b)
	}
}

func TestAnswersHangOnTheArgumentsAlone(t *testing.T) {
	for range 3 {
		expectCounts(t, "again", counting(0, 2), 0, 2)
		refuseCounts(t, "again", counting(3, 1))
		expectCounts(t, "unsaid, again", api.Node{}, 2, 1)
		expectReg(t, "again", counting(1, 1), reg(1, 2), Window{1, 2})
		refuseReg(t, "again", counting(1, 1), reg(1))
		expectReg(t, "unsaid, again", api.Node{}, reg(1, 2, 3), Window{1<<32 + 2, 3})
	}
}
