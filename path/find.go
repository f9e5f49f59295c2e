package path

import (
	"strings"

	"arboret/api"
	"arboret/name"
	"arboret/tree"
	"arboret/words"
)

const (
	aliases  = "aliases"
	maxBytes = 1024
)

// Find answers the place of the node that the path means.
func Find(t api.Tree, path string) ([]int, api.Errno) {
	if len(path) < 1 || len(path) > maxBytes {
		return nil, api.ErrArg
	}
	full, ok := withoutAlias(t.Root, path)
	if !ok {
		return nil, api.ErrNone
	}
	// The root's path is the only one whose last / has no name behind it.
	if full == slash {
		return nil, api.OK
	}
	n := t.Root
	var place []int
	for _, s := range strings.Split(strings.TrimPrefix(full, slash), slash) {
		i, e := kid(n, s)
		if e != api.OK {
			return nil, e
		}
		place = append(place, i)
		n = n.Kids[i]
	}
	return place, api.OK
}

// withoutAlias answers the path from the root on, and whether there is one: its alias may be none.
func withoutAlias(root api.Node, path string) (string, bool) {
	alias, rest, more := strings.Cut(path, slash)
	if alias == "" {
		return path, true
	}
	text, ok := aliasText(root, alias)
	if !ok {
		return "", false
	}
	if more {
		return strings.TrimSuffix(text, slash) + slash + rest, true
	}
	return text, true
}

// aliasText answers what stands for the alias, and whether there is such an alias.
func aliasText(root api.Node, alias string) (string, bool) {
	i := tree.Kid(root, aliases)
	if i < 0 {
		return "", false
	}
	value, _ := tree.Find(root.Kids[i], alias)
	text, ok := words.Text(value, 0)
	// A value of several texts is none.
	if !ok || len(text)+1 != len(value) || !strings.HasPrefix(text, slash) {
		return "", false
	}
	return text, true
}

// kid answers which one of those right below n the name in a path means.
func kid(n api.Node, s string) (int, api.Errno) {
	// In a tree that isn't formed a node may have the empty name, or one whose base is empty.
	if s == "" {
		return 0, api.ErrNone
	}
	if i := tree.Kid(n, s); i >= 0 {
		return i, api.OK
	}
	// A name with @ is no base, so that none has it.
	return kidOfBase(n, s)
}

// kidOfBase answers which one of those right below n has that base, if just one has.
func kidOfBase(n api.Node, base string) (int, api.Errno) {
	found := -1
	for i, k := range n.Kids {
		if b, _ := name.Split(k.Name); b != base {
			continue
		}
		if found >= 0 {
			return 0, api.ErrTwice
		}
		found = i
	}
	if found < 0 {
		return 0, api.ErrNone
	}
	return found, api.OK
}
