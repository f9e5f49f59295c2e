package name

import (
	"math"
	"strings"
	"testing"

	"arboret/api"
)

// The tests of this file are P2.1's, and, of its calls, the rules R1, R2 and R5's.

// What the chapter names, written out, so that the tests don't lean on how the package tells bytes apart.
const (
	starts   = "abcdefghijklmnopqrstuvwxyzABCDEFGHIJKLMNOPQRSTUVWXYZ_"
	nodeSet  = starts + "0123456789,.+-"
	propSet  = nodeSet + "?#"
	longest  = "abcdefghijklmnopqrstuvwxyz01234"
	tooLong  = longest + "5"
	numbers  = "0123456789,.+-01234567890123456"
	tooLong2 = numbers + "7"
)

func has(set string, c byte) bool { return strings.Contains(set, string([]byte{c})) }

func TestNode(t *testing.T) {
	for _, c := range []struct {
		s    string
		want bool
	}{
		{"soc", true},
		{"a", true},
		{"_", true},
		{"_x", true},
		{"Z9,._+-", true},
		{"uart@1F", true},
		{"uart@g", true},
		{"a@0", true},
		{"a@,._+-", true},
		{"__overlay__", true},
		{longest, true},
		{longest + "@" + longest, true},
		{longest + "@" + numbers, true},
		{"", false},
		{"@", false},
		{"@1", false},
		{"a@", false},
		{"a@@", false},
		{"a@@1", false},
		{"a@1@", false},
		{"a@1@2", false},
		{"0", false},
		{"0a", false},
		{",a", false},
		{".a", false},
		{"+a", false},
		{"-a", false},
		{"0a@1", false},
		{"a b", false},
		{" a", false},
		{"a ", false},
		{"a/b", false},
		{"/", false},
		{"a?", false},
		{"#a", false},
		{"a@1?", false},
		{"a@#1", false},
		{"a\x00", false},
		{"é", false},
		{"aé", false},
		{"a@é", false},
		{"a\xff", false},
		{"ａ", false},
		{tooLong, false},
		{tooLong + "@1", false},
		{"a@" + tooLong, false},
		{"a@" + tooLong2, false},
		{strings.Repeat("a", 1<<20), false},
		{"a@" + strings.Repeat("1", 1<<20), false},
	} {
		if x := Node(c.s); x != c.want {
			t.Errorf("Node(%.80q) = %v", c.s, x)
		}
	}
}

func TestProp(t *testing.T) {
	for _, c := range []struct {
		s    string
		want bool
	}{
		{"reg", true},
		{"0", true},
		{"0a", true},
		{"a?", true},
		{"?", true},
		{"#", true},
		{"#size-cells", true},
		{",._+-?#", true},
		{"linux,phandle", true},
		{longest, true},
		{numbers, true},
		{strings.Repeat("#", api.MaxName), true},
		{"", false},
		{"a@1", false},
		{"@", false},
		{"a b", false},
		{" ", false},
		{"a/b", false},
		{"a:b", false},
		{"a\x00", false},
		{"é", false},
		{"a\xff", false},
		{tooLong, false},
		{tooLong2, false},
		{strings.Repeat("#", api.MaxName+1), false},
		{strings.Repeat("a", 1<<20), false},
	} {
		if x := Prop(c.s); x != c.want {
			t.Errorf("Prop(%.80q) = %v", c.s, x)
		}
	}
}

func TestEveryByteOfANodeName(t *testing.T) {
	for i := range 256 {
		c := byte(i)
		b := string([]byte{c})
		for _, x := range []struct {
			s    string
			want bool
		}{
			{b, has(starts, c)},
			{b + "a", has(starts, c)},
			{b + "@1", has(starts, c)},
			{"a" + b, has(nodeSet, c)},
			{"a" + b + "b", has(nodeSet, c) || c == '@'},
			{"a@" + b, has(nodeSet, c)},
			{"a@1" + b, has(nodeSet, c)},
			{"a@" + b + "1", has(nodeSet, c)},
		} {
			if y := Node(x.s); y != x.want {
				t.Errorf("Node(%q) = %v", x.s, y)
			}
		}
	}
}

func TestEveryByteOfAPropName(t *testing.T) {
	for i := range 256 {
		c := byte(i)
		b := string([]byte{c})
		for _, s := range []string{b, b + "a", "a" + b, "a" + b + "b"} {
			if y := Prop(s); y != has(propSet, c) {
				t.Errorf("Prop(%q) = %v", s, y)
			}
		}
	}
}

func TestEveryLength(t *testing.T) {
	for n := range 70 {
		s, want := strings.Repeat("a", n), n >= 1 && n <= 31
		for _, x := range []struct {
			call string
			got  bool
		}{{"Node", Node(s)}, {"Node with a unit", Node(s + "@1")}, {"Node's unit", Node("a@" + s)}, {"Prop", Prop(s)}} {
			if x.got != want {
				t.Errorf("%s of %d bytes: %v", x.call, n, x.got)
			}
		}
	}
}

func TestSplit(t *testing.T) {
	for _, c := range []struct{ s, base, unit string }{
		{"uart@1f", "uart", "1f"},
		{"a@1@2", "a", "1@2"},
		{"a@@1", "a", "@1"},
		{"a", "a", ""},
		{"a@", "a", ""},
		{"@1", "", "1"},
		{"@", "", ""},
		{"@@", "", "@"},
		{"", "", ""},
		{"0 b@é/", "0 b", "é/"},
		{"a\x00\xff@\xc3", "a\x00\xff", "\xc3"},
		{tooLong + "@" + tooLong2, tooLong, tooLong2},
	} {
		if base, unit := Split(c.s); base != c.base || unit != c.unit {
			t.Errorf("Split(%q) = %q, %q", c.s, base, unit)
		}
	}
}

func TestUnit(t *testing.T) {
	for _, c := range []struct {
		s    string
		want uint64
		ok   bool
	}{
		{"uart@1f", 31, true},
		{"uart@1F", 31, true},
		{"a@0", 0, true},
		{"a@9", 9, true},
		{"a@aBcDeF", 0xabcdef, true},
		{"a@AbCdEf", 0xabcdef, true},
		{"a@0000000000000000", 0, true},
		{"a@0000000000000001", 1, true},
		{"a@123456789abcdef0", 0x123456789abcdef0, true},
		{"a@8000000000000000", 1 << 63, true},
		{"a@FFFFFFFFFFFFFFFF", math.MaxUint64, true},
		{"a@ffffffffffffffff", math.MaxUint64, true},
		// The first @ tells the unit, of whatever s is.
		{"@1f", 31, true},
		{"0 b@1f", 31, true},
		{tooLong + "@1f", 31, true},
		{"", 0, false},
		{"a", 0, false},
		{"1f", 0, false},
		{"@", 0, false},
		{"a@", 0, false},
		{"a@g", 0, false},
		{"a@1g", 0, false},
		{"a@G1", 0, false},
		{"a@00000000000000000", 0, false},
		{"a@00000000000000001", 0, false},
		{"a@12345678901234567", 0, false},
		{"a@10000000000000000", 0, false},
		{"a@" + strings.Repeat("0", 1<<20), 0, false},
		{"a@1,2", 0, false},
		{"a@1@2", 0, false},
		{"a@@1", 0, false},
		{"a@+1", 0, false},
		{"a@-1", 0, false},
		{"a@0x1", 0, false},
		{"a@0X1", 0, false},
		{"a@1_0", 0, false},
		{"a@_1", 0, false},
		{"a@1.0", 0, false},
		{"a@ 1", 0, false},
		{"a@1 ", 0, false},
		{"a@1\x00", 0, false},
		{"a@é", 0, false},
		{"a@１", 0, false},
		{"a@\xff", 0, false},
	} {
		if v, ok := Unit(c.s); v != c.want || ok != c.ok {
			t.Errorf("Unit(%.80q) = %#x, %v", c.s, v, ok)
		}
	}
}

func TestEveryDigitOfAUnit(t *testing.T) {
	for i := range 256 {
		c := byte(i)
		digit := strings.Index("0123456789abcdef", strings.ToLower(string([]byte{c})))
		for _, x := range []struct {
			s string
			v int
		}{{"a@" + string([]byte{c}), digit}, {"a@1" + string([]byte{c}), 16 + digit}, {"a@" + string([]byte{c}) + "1", 16*digit + 1}} {
			v, ok := Unit(x.s)
			if ok != (digit >= 0) || ok && v != uint64(x.v) || !ok && v != 0 {
				t.Errorf("Unit(%q) = %#x, %v", x.s, v, ok)
			}
		}
	}
}

func TestAnswersHangOnTheArgumentAlone(t *testing.T) {
	s := "uart@1f"
	for range 3 {
		base, unit := Split(s)
		v, ok := Unit(s)
		if !Node(s) || Prop(s) || base != "uart" || unit != "1f" || v != 31 || !ok {
			t.Errorf("of %q: %v, %v, %q, %q, %d, %v", s, Node(s), Prop(s), base, unit, v, ok)
		}
		Node("")
		Prop("")
		Split("")
		Unit("a@ffff")
	}
}
