package path

import (
	"math/rand/v2"
	"slices"
	"strings"
	"testing"

	"arboret/api"
	"arboret/name"
	"arboret/tree"
)

// The tests of this file are P6.2's, and, of Find, the rules R1 to R6's.

type found struct {
	path string
	want []int
	e    api.Errno
}

func find(t *testing.T, x api.Tree, l []found) {
	t.Helper()
	for _, c := range l {
		if place, e := Find(x, c.path); e != c.e || !slices.Equal(place, c.want) {
			t.Errorf("Find(%.80q) = %v, %v, not %v, %v", c.path, place, e, c.want, c.e)
		}
	}
}

func none(paths ...string) []found {
	var l []found
	for _, s := range paths {
		l = append(l, found{s, nil, api.ErrNone})
	}
	return l
}

// machine answers a tree whose nodes have units, with those aliases.
func machine(aliases ...api.Prop) api.Tree {
	soc := node("soc", node("uart@1"), node("uart@2"), node("gpio@3", node("pin")), node("rtc"), node("rtc@4"), node("Gpio@5"))
	bus := node("bus@10", node("x@1", node("y@1")), node("x@1,2"))
	return rooted(soc, bus, api.Node{Name: "aliases", Props: aliases, Kids: []api.Node{node("below")}}, node("bus-2@10"))
}

// alias answers the property of that name whose value is that text.
func alias(s, text string) api.Prop {
	return api.Prop{Name: s, Value: []byte(text + "\x00")}
}

func TestFindFullNames(t *testing.T) {
	find(t, machine(), []found{
		{"/", nil, api.OK},
		{"/soc", []int{0}, api.OK},
		{"/soc/uart@1", []int{0, 0}, api.OK},
		{"/soc/uart@2", []int{0, 1}, api.OK},
		{"/soc/gpio@3/pin", []int{0, 2, 0}, api.OK},
		{"/bus@10/x@1/y@1", []int{1, 0, 0}, api.OK},
		{"/bus@10/x@1,2", []int{1, 1}, api.OK},
		{"/aliases", []int{2}, api.OK},
		{"/aliases/below", []int{2, 0}, api.OK},
		{"/bus-2@10", []int{3}, api.OK},
	})
	find(t, machine(), none("/none", "/so", "/soc2", "/Soc", "/soc/uart@3", "/soc/uart@", "/soc/uart@01", "/soc@1", "/soc/rtc@", "/soc/gpio@3/pin/pin",
		"/uart@1", "/soc/soc", "/@1", "/@", "/soc ", " /soc", "/soc\x00", "/.", "/..", "/soc/.", "/soc/..", "/soc/uart@1@1", "/bus@10@10", "/é", "/\xff"))
	find(t, api.Tree{}, append(none("/a", "/@", "a"), found{"/", nil, api.OK}))
}

func TestFindNamesWithoutUnits(t *testing.T) {
	find(t, machine(), []found{
		{"/soc/gpio", []int{0, 2}, api.OK},
		{"/soc/Gpio", []int{0, 5}, api.OK},
		{"/soc/gpio/pin", []int{0, 2, 0}, api.OK},
		{"/bus", []int{1}, api.OK},
		{"/bus-2", []int{3}, api.OK},
		{"/bus/x@1/y", []int{1, 0, 0}, api.OK},
		{"/bus/x@1,2", []int{1, 1}, api.OK},
		// One has just that name: it isn't asked what else it could stand for.
		{"/soc/rtc", []int{0, 3}, api.OK},
		{"/soc/rtc@4", []int{0, 4}, api.OK},
		{"/soc/uart", nil, api.ErrTwice},
		{"/bus/x", nil, api.ErrTwice},
		{"/bus/x/y", nil, api.ErrTwice},
		{"/soc/uart@1/pin", nil, api.ErrNone},
	})
	find(t, machine(), none("/bu", "/soc/gpi", "/soc/gpio/pi", "/soc/GPIO", "/soc/3", "/soc/gpio@", "/soc/@3"))
	// A unit is of the whole name, not of what begins with it.
	find(t, rooted(node("a@1@2"), node("a@1")), []found{{"/a", nil, api.ErrTwice}, {"/a@1", []int{1}, api.OK}, {"/a@1@2", []int{0}, api.OK}})
	find(t, rooted(node("a@1@2")), append(none("/a@1", "/a@2"), found{"/a", []int{0}, api.OK}))
	// Those on other levels don't count.
	find(t, rooted(node("b", node("a@1")), node("a@2", node("a@3"))), []found{{"/a", []int{1}, api.OK}, {"/a/a", []int{1, 0}, api.OK}, {"/b/a", []int{0, 0}, api.OK}})
	find(t, rooted(node("a@1"), node("a@2"), node("a")), []found{{"/a", []int{2}, api.OK}})
	find(t, rooted(node("a@1"), node("a@2"), node("a@3")), []found{{"/a", nil, api.ErrTwice}})
}

func TestFindEmptyNames(t *testing.T) {
	aliases := []api.Prop{alias("s", "/soc"), alias("t", "/soc/"), alias("r", "/"), alias("u", "//"), alias("v", "//soc"), alias("w", "/soc//")}
	find(t, machine(aliases...), none("//", "///", "//soc", "/soc/", "/soc//", "/soc//uart@1", "//soc/uart@1", "/soc/uart@1/", "/soc/gpio@3//pin",
		"s/", "s//", "s//uart@1", "t", "t/", "t//uart@1", "r//", "r//soc", "r/soc/", "u", "u/", "u/soc", "v", "v/uart@1", "w", "w/uart@1"))
	// In a tree that isn't formed the empty name is nobody's, too.
	odd := rooted(node("", node("", node("a")), node("b")), node("a", node(""), node("@1")), node("@1"))
	find(t, odd, append(none("//", "//a", "//b", "///a", "/a/", "/a//"), found{"/", nil, api.OK}, found{"/a", []int{1}, api.OK}, found{"/@1", []int{2}, api.OK}))
}

func TestFindAliases(t *testing.T) {
	x := machine(
		alias("soc", "/soc/gpio@3"), alias("s", "/soc"), alias("r", "/"), alias("t", "/soc/"), alias("g", "/soc/gpio"), alias("two", "/soc/uart"),
		alias("lost", "/none"), alias("own", "/aliases"), alias("longer-1?#", "/bus@10/x@1"),
	)
	find(t, x, []found{
		{"soc", []int{0, 2}, api.OK},
		{"soc/pin", []int{0, 2, 0}, api.OK},
		{"/soc", []int{0}, api.OK},
		{"s", []int{0}, api.OK},
		{"s/uart@2", []int{0, 1}, api.OK},
		{"s/gpio/pin", []int{0, 2, 0}, api.OK},
		{"s/uart", nil, api.ErrTwice},
		{"r", nil, api.OK},
		// Nothing but / is left, which is the root's.
		{"r/", nil, api.OK},
		{"r/soc", []int{0}, api.OK},
		{"r/soc/uart@1", []int{0, 0}, api.OK},
		{"t/uart@1", []int{0, 0}, api.OK},
		{"g", []int{0, 2}, api.OK},
		{"g/pin", []int{0, 2, 0}, api.OK},
		{"two", nil, api.ErrTwice},
		{"two/pin", nil, api.ErrTwice},
		{"own", []int{2}, api.OK},
		{"own/below", []int{2, 0}, api.OK},
		{"longer-1?#/y", []int{1, 0, 0}, api.OK},
	})
	find(t, x, none("lost", "lost/uart@1", "s/none", "s/s", "s/soc", "r/s", "r/none", "/s", "/r", "z", "z/soc", "S", "so", "soc ", "below", "aliases", "uart@1", "s@1", "@", "bus@10", "longer-1"))
}

func TestFindAliasesThatAreNone(t *testing.T) {
	values := []string{"", "\x00", "soc\x00", "soc/\x00", "/soc", "/", "/soc\x00\x00", "/soc\x00/soc\x00", "\x00/soc\x00", "/soc\x00/", " /soc\x00", "s\x00", "\xff/\x00"}
	for _, v := range values {
		x := machine(api.Prop{Name: "a", Value: []byte(v)}, alias("s", "/soc"))
		find(t, x, none("a", "a/", "a/uart@1", "a/soc"))
		find(t, x, []found{{"s", []int{0}, api.OK}})
	}
	// An alias of an alias is none, nor is what another node says.
	find(t, machine(alias("a", "s"), alias("s", "/soc")), none("a", "a/uart@1"))
	p := []api.Prop{alias("a", "/b")}
	for _, x := range []api.Tree{
		rooted(node("b")),
		{Root: api.Node{Props: p, Kids: []api.Node{node("b")}}},
		rooted(node("b"), api.Node{Name: "aliases@1", Props: p}),
		rooted(node("b"), api.Node{Name: "alias", Props: p}),
		rooted(node("b"), api.Node{Name: "Aliases", Props: p}),
		rooted(node("b", api.Node{Name: "aliases", Props: p})),
		rooted(node("b"), node("aliases", api.Node{Name: "aliases", Props: p})),
		rooted(node("b"), node("aliases", node("a"))),
	} {
		find(t, x, append(none("a", "a/b"), found{"/b", []int{0}, api.OK}))
	}
	// What is ahead of a first / is no alias, where it has no bytes.
	find(t, machine(api.Prop{Name: "", Value: []byte("/soc\x00")}), append(none("/uart@1", "//uart@1"), found{"/", nil, api.OK}))
}

func TestFindLengths(t *testing.T) {
	long := strings.Repeat("a", 2000)
	x := rooted(node(long[:1023]), node(long[:1024]), api.Node{Name: "aliases", Props: []api.Prop{alias(long[:1024], "/"), alias(long[:1025], "/"), alias("a", "/"+long[:1024]), alias("b", "/c/"+long)}}, node("c", node(long)))
	find(t, x, []found{
		{"", nil, api.ErrArg},
		{"/" + long[:1023], []int{0}, api.OK},
		{"/" + long[:1024], nil, api.ErrArg},
		{"/" + long[:1022], nil, api.ErrNone},
		{long[:1024], nil, api.OK},
		{long[:1025], nil, api.ErrArg},
		{long[:1023] + "/", nil, api.ErrNone},
		{strings.Repeat("/", 1024), nil, api.ErrNone},
		{strings.Repeat("/", 1025), nil, api.ErrArg},
		{string(make([]byte, 1024)), nil, api.ErrNone},
		{string(make([]byte, 1025)), nil, api.ErrArg},
		{strings.Repeat("/a", 1<<20), nil, api.ErrArg},
		// What an alias stands for may be longer than a path.
		{"a", []int{1}, api.OK},
		{"b", []int{3, 0}, api.OK},
		{"b/a", nil, api.ErrNone},
	})
}

// A name is asked of ahead of those behind it, whatever is wrong with them.
func TestFindAsksInOrder(t *testing.T) {
	find(t, machine(), []found{
		{"/soc/uart/none", nil, api.ErrTwice},
		{"/soc/uart/", nil, api.ErrTwice},
		{"/none/uart", nil, api.ErrNone},
		{"//soc/uart", nil, api.ErrNone},
		{"/bus/x/x", nil, api.ErrTwice},
		{"none/soc/uart", nil, api.ErrNone},
		{"none" + strings.Repeat("/", 1021), nil, api.ErrArg},
	})
}

func TestFindInTreesThatAreNotFormed(t *testing.T) {
	// The first one of a name, as layer 3 answers it.
	twice := rooted(node("a", node("b")), node("a", node("c")), api.Node{Name: "aliases", Props: []api.Prop{alias("x", "/a"), alias("x", "/")}}, api.Node{Name: "aliases", Props: []api.Prop{alias("y", "/")}})
	find(t, twice, append(none("/a/c", "y"), found{"/a", []int{0}, api.OK}, found{"/a/b", []int{0, 0}, api.OK}, found{"x", []int{0}, api.OK}))
	// A place may be of more than MaxDepth numbers.
	for _, depth := range []int{api.MaxDepth, api.MaxDepth + 1, 512} {
		find(t, chain(depth, "a@1"), []found{{strings.Repeat("/a", depth), make([]int, depth), api.OK}})
	}
	find(t, rooted(node("a/b"), node("a@")), append(none("/a/b"), found{"/a", []int{1}, api.OK}, found{"/a@", []int{1}, api.OK}))
}

// The longest path of a formed tree is one that may be asked.
func TestFindTheLongestPath(t *testing.T) {
	long := strings.Repeat("a", api.MaxName)
	x := chain(api.MaxDepth-1, long+"@"+long)
	if e := tree.Check(x); e != api.OK {
		t.Fatal(e)
	}
	place := make([]int, api.MaxDepth-1)
	s, e := Path(x, place)
	if e != api.OK || len(s) != 960 {
		t.Fatal(len(s), e)
	}
	find(t, x, []found{{s, place, api.OK}, {strings.Repeat("/"+long, api.MaxDepth-1), place, api.OK}})
}

func TestFindIsNewMemory(t *testing.T) {
	x := machine(alias("s", "/soc"))
	a, _ := Find(x, "s/uart@2")
	b, _ := Find(x, "s/uart@2")
	clear(a[:cap(a)])
	if !slices.Equal(b, []int{0, 1}) {
		t.Errorf("an answer changes with another one: %v", b)
	}
	if !tree.Equal(x, machine(alias("s", "/soc"))) {
		t.Error("what was handed in is changed")
	}
}

// grow answers a node of few names, so that many of them share a base.
func grow(r *rand.Rand, s string, depth int) api.Node {
	n := node(s)
	for range r.IntN(5) {
		k := []string{"a", "b", "ab"}[r.IntN(3)] + []string{"", "@1", "@2"}[r.IntN(3)]
		if depth > 0 && tree.Kid(n, k) < 0 {
			n.Kids = append(n.Kids, grow(r, k, depth-1))
		}
	}
	return n
}

// means answers which nodes of a formed tree a path from the root on could mean, name by name; it tells them all, where one name could stand for several.
func means(x api.Tree, path string) [][]int {
	l := [][]int{nil}
	for _, s := range strings.Split(path, "/")[1:] {
		n := x.Root
		for _, i := range l[0] {
			n = n.Kids[i]
		}
		var exact, based [][]int
		for i, k := range n.Kids {
			place := slices.Concat(l[0], []int{i})
			if k.Name == s {
				exact = append(exact, place)
			}
			if base, _ := name.Split(k.Name); base == s {
				based = append(based, place)
			}
		}
		if l = based; len(exact) > 0 {
			l = exact
		}
		if len(l) != 1 {
			break
		}
	}
	return l
}

func TestFindAnyPath(t *testing.T) {
	r := rand.New(rand.NewPCG(6, 2))
	seen := make(map[api.Errno]int)
	for range 300 {
		x := api.Tree{Root: grow(r, "", 4)}
		for _, place := range All(x) {
			s, e := Path(x, place)
			if l, f := Find(x, s); e != api.OK || f != api.OK || !slices.Equal(l, place) {
				t.Fatalf("Find(%q) = %v, %v, not %v", s, l, f, place)
			}
		}
		for range 50 {
			s := ""
			for range 1 + r.IntN(4) {
				s += "/" + []string{"a", "b", "ab", "a@1", "b@2"}[r.IntN(5)]
			}
			c := found{path: s, e: api.ErrTwice}
			switch l := means(x, s); len(l) {
			case 0:
				c.e = api.ErrNone
			case 1:
				c.want, c.e = l[0], api.OK
			}
			find(t, x, []found{c})
			seen[c.e]++
		}
	}
	if seen[api.OK] < 500 || seen[api.ErrNone] < 500 || seen[api.ErrTwice] < 500 {
		t.Errorf("the paths are no test: %v", seen)
	}
}

func FuzzFind(f *testing.F) {
	for _, s := range []string{"/", "", "s", "s/uart@1", "/soc/uart", "r/", "//", "/soc/"} {
		f.Add(s)
	}
	x := machine(alias("s", "/soc"), alias("r", "/"), alias("t", "/soc/"))
	f.Fuzz(func(t *testing.T, s string) {
		place, e := Find(x, s)
		if e != api.OK {
			if len(place) != 0 || e != api.ErrArg && e != api.ErrNone && e != api.ErrTwice {
				t.Errorf("Find(%q) = %v, %v", s, place, e)
			}
			return
		}
		full, g := Path(x, place)
		if l, h := Find(x, full); g != api.OK || h != api.OK || !slices.Equal(l, place) {
			t.Errorf("Find(%q) = %v, whose path %q is %v, %v", s, place, full, l, h)
		}
	})
}
