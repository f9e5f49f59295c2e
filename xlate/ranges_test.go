package xlate

import (
	"math"
	"slices"
	"strconv"
	"testing"

	"arboret/api"
	"arboret/prop"
)

// The tests of this file are P13.1's.

// last is the last address.
const last = math.MaxUint64

func val(name string, value []byte) api.Prop { return api.Prop{Name: name, Value: value} }

func cell(name string, v uint32) api.Prop { return val(name, prop.FromCells(v)) }

func having(props ...api.Prop) api.Node { return api.Node{Name: "n", Props: props} }

// counting answers a node with both counts, among other properties.
func counting(address, size uint32) api.Node {
	return having(cell("reg", 9), cell("#size-cells", size), val("status", nil), cell("#address-cells", address))
}

// ranging answers a node with both counts, and with these cells of ranges.
func ranging(address, size uint32, cells ...uint32) api.Node {
	return rangingOf(address, size, prop.FromCells(cells...))
}

func rangingOf(address, size uint32, value []byte) api.Node {
	n := counting(address, size)
	n.Props = append(n.Props, val("ranges", value), cell("phandle", 3))
	return n
}

func expectRanges(t *testing.T, what string, parent, n api.Node, want ...Range) {
	t.Helper()
	if l, has, e := Ranges(parent, n); !slices.Equal(l, want) || !has || e != api.OK {
		t.Errorf("%s: Ranges = %v, %v, %v, not %v", what, l, has, e, want)
	}
}

func expectNoRanges(t *testing.T, what string, parent, n api.Node) {
	t.Helper()
	if l, has, e := Ranges(parent, n); len(l) != 0 || has || e != api.OK {
		t.Errorf("%s: Ranges = %v, %v, %v", what, l, has, e)
	}
}

func refuseRanges(t *testing.T, what string, parent, n api.Node) {
	t.Helper()
	if l, has, e := Ranges(parent, n); len(l) != 0 || has || e != api.ErrCells {
		t.Errorf("%s: Ranges = %v, %v, %v", what, l, has, e)
	}
}

func TestRanges(t *testing.T) {
	const big = math.MaxUint32
	for _, c := range []struct {
		what      string
		parent, n api.Node
		want      []Range
	}{
		{"no counts said", api.Node{}, having(val("ranges", prop.FromCells(1, 2, 3, 4, 5))), []Range{{1<<32 + 2, 3<<32 + 4, 5}}},
		{"its own alone said", api.Node{}, ranging(1, 2, 1, 2, 3, 4, 5), []Range{{1, 2<<32 + 3, 4<<32 + 5}}},
		{"its parent's alone said", counting(1, 2), having(val("ranges", prop.FromCells(1, 2, 3, 4))), []Range{{1<<32 + 2, 3, 4}}},
		{"1 and 1 in 1", counting(1, 1), ranging(1, 1, 1, 2, 3), []Range{{1, 2, 3}}},
		{"1 and 1 in 2", counting(2, 1), ranging(1, 1, 1, 2, 3, 4), []Range{{1, 2<<32 + 3, 4}}},
		{"2 and 1 in 1", counting(1, 1), ranging(2, 1, 1, 2, 3, 4), []Range{{1<<32 + 2, 3, 4}}},
		{"1 and 2 in 1", counting(1, 1), ranging(1, 2, 1, 2, 3, 4), []Range{{1, 2, 3<<32 + 4}}},
		{"2 and 2 in 2", counting(2, 2), ranging(2, 2, 1, 2, 3, 4, 5, 6), []Range{{1<<32 + 2, 3<<32 + 4, 5<<32 + 6}}},
		{"1 and 0 in 1", counting(1, 1), ranging(1, 0, 1, 2, 3, 4), []Range{{1, 2, 0}, {3, 4, 0}}},
		{"2 and 0 in 1", counting(1, 2), ranging(2, 0, 1, 2, 3), []Range{{1<<32 + 2, 3, 0}}},
		// A parent whose sizes have no cells has ranges below it all the same.
		{"1 and 1 in 1 and 0", counting(1, 0), ranging(1, 1, 1, 2, 3), []Range{{1, 2, 3}}},
		{"several, in their order", counting(1, 1), ranging(1, 1, 7, 8, 9, 1, 2, 3, 7, 8, 9), []Range{{7, 8, 9}, {1, 2, 3}, {7, 8, 9}}},
		{"those of no size", counting(1, 1), ranging(1, 1, 7, 8, 0, 0, 0, 0), []Range{{7, 8, 0}, {}}},
		// What goes beyond the last address is for others to refuse.
		{"the greatest", counting(2, 1), ranging(2, 2, big, big, big, big, big, big), []Range{{last, last, last}}},
		{"no bytes", counting(1, 1), ranging(1, 1), []Range{{0, 0, last}}},
		{"no bytes, of other cells", counting(1, 1), ranging(2, 0), []Range{{0, 0, last}}},
		{"no bytes, no counts said", api.Node{}, having(val("ranges", nil)), []Range{{0, 0, last}}},
		{"no bytes, but a list", api.Node{}, having(val("ranges", []byte{})), []Range{{0, 0, last}}},
	} {
		expectRanges(t, c.what, c.parent, c.n, c.want...)
	}
}

func TestNoRanges(t *testing.T) {
	n := having(cell("range", 1), cell("Ranges", 1), cell("dma-ranges", 1), cell("ranges\x00", 1), cell("", 1))
	expectNoRanges(t, "others", counting(1, 1), n)
	expectNoRanges(t, "nothing", api.Node{}, api.Node{})
	n.Kids = []api.Node{ranging(1, 1, 1, 2, 3), {Name: "ranges"}}
	expectNoRanges(t, "those below", counting(1, 1), n)
	expectNoRanges(t, "its parent's", ranging(1, 1, 1, 2, 3), counting(1, 1))
	// Without the property nobody asks the counts.
	expectNoRanges(t, "wrong counts", counting(3, 3), counting(0, 9))
	expectNoRanges(t, "counts of no cell", having(val("#address-cells", nil)), having(val("#size-cells", []byte{1})))
}

func TestRangesOfWrongCounts(t *testing.T) {
	wrong := [][]byte{nil, {1}, {0, 0, 1}, {0, 0, 0, 1, 0}, {1, 0, 0, 0}, make([]byte, 8), make([]byte, api.MaxBlob)}
	for _, v := range []uint32{3, 4, 256, 1<<16 + 1, 1 << 31, math.MaxUint32} {
		wrong = append(wrong, prop.FromCells(v))
	}
	for _, value := range wrong {
		for _, name := range []string{"#address-cells", "#size-cells"} {
			bad := val(name, value)
			for _, ranges := range [][]byte{nil, prop.FromCells(1, 2, 3), prop.FromCells(1, 2, 3, 4, 5), {1}} {
				what := name + " of " + strconv.Itoa(len(value)) + " bytes"
				n := having(bad, val("ranges", ranges))
				refuseRanges(t, what, counting(1, 1), n)
				refuseRanges(t, what+", and its parent's", having(bad), n)
				refuseRanges(t, what+" of its parent", having(bad), rangingOf(1, 1, ranges))
			}
		}
	}
}

func TestRangesOfAllLengths(t *testing.T) {
	for i := range uint32(27) {
		below, above, size := i/9, i/3%3, i%3
		for length := range 100 {
			what := strconv.Itoa(length) + " bytes, of " + strconv.Itoa(int(below)) + ", " + strconv.Itoa(int(above)) + " and " + strconv.Itoa(int(size))
			n, parent := rangingOf(below, size, make([]byte, length)), counting(above, 2-size)
			each := int(below+above+size) * 4
			switch {
			case below == 0 || above == 0 || length%each != 0:
				refuseRanges(t, what, parent, n)
			case length == 0:
				expectRanges(t, what, parent, n, Range{0, 0, last})
			default:
				expectRanges(t, what, parent, n, make([]Range, length/each)...)
			}
		}
	}
}

// Of several properties of one name, which a formed tree hasn't, the first one is asked, as layers 3 and 7 do.
func TestSeveralOfOneName(t *testing.T) {
	right, wrong := val("ranges", prop.FromCells(1, 2, 3)), val("ranges", []byte{1})
	n := counting(1, 1)
	expectRanges(t, "right ahead", counting(1, 1), having(append(n.Props, right, wrong)...), Range{1, 2, 3})
	refuseRanges(t, "wrong ahead", counting(1, 1), having(append(n.Props, wrong, right)...))
}

func TestLongRanges(t *testing.T) {
	cells := make([]uint32, 4<<16)
	want := make([]Range, 1<<16)
	for i := range want {
		below, hi, lo, size := uint32(i)*0x9e3779b1, uint32(i)^0x80abcdef, uint32(i)*0x85ebca6b, uint32(i)
		cells[4*i], cells[4*i+1], cells[4*i+2], cells[4*i+3] = below, hi, lo, size
		want[i] = Range{uint64(below), uint64(hi)*(1<<32) + uint64(lo), uint64(size)}
	}
	if l, has, e := Ranges(counting(2, 0), ranging(1, 1, cells...)); !has || e != api.OK || !slices.Equal(l, want) {
		t.Errorf("Ranges of %d cells = %d ranges, %v, %v", len(cells), len(l), has, e)
	}
	refuseRanges(t, "one cell less", counting(2, 0), ranging(1, 1, cells[1:]...))
	refuseRanges(t, "one byte more", counting(2, 0), rangingOf(1, 1, append(prop.FromCells(cells...), 0)))
}
