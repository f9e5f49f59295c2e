package valid

import (
	"cmp"
	"slices"

	"arboret/api"
	"arboret/irq"
	"arboret/path"
	"arboret/region"
	"arboret/xlate"
)

// whole answers the first error of what is asked behind all nodes, of what is enabled alone.
func (c *checker) whole() error {
	for _, s := range c.spots {
		if (s.kind == Bus || s.isRoot()) && anyMeet(standing(s)) {
			return c.fault(api.ErrOverlap, s.place)
		}
	}
	if l, twice := c.twice(); twice {
		return c.fault(api.ErrTwice, l.Place)
	}
	if c.lineless() > 1 {
		return api.ErrArg
	}
	return nil
}

// standing answers what stands right below s: the windows of devices, and what is seen there through buses.
func standing(s *spot) []region.Window {
	var l []region.Window
	for _, kid := range s.kids {
		switch {
		case kid.isDevice():
			own, _ := region.Reg(s.node, kid.node)
			l = append(l, own...)
		case kid.kind == Bus:
			ranges, _, _ := xlate.Ranges(s.node, kid.node)
			for _, r := range ranges {
				l = append(l, seenFromAbove(r))
			}
		}
	}
	return l
}

// anyMeet answers whether two of the windows meet. It sorts them: if any two that have bytes meet then, so do two neighbours.
func anyMeet(l []region.Window) bool {
	l = slices.DeleteFunc(l, func(w region.Window) bool { return w.Size == 0 })
	slices.SortFunc(l, func(a, b region.Window) int { return cmp.Compare(a.At, b.At) })
	for i := 1; i < len(l); i++ {
		if region.Meet(l[i-1], l[i]) {
			return true
		}
	}
	return false
}

// twice answers the first line at a controller to which one of a device's comes behind another one, and whether there is such a line.
func (c *checker) twice() (irq.Line, bool) {
	type end struct {
		path string
		line uint32
	}
	taken := make(map[end]struct{})
	for _, s := range c.spots {
		if !s.isDevice() {
			continue
		}
		for _, own := range s.lines {
			l, e := irq.Through(c.tree, own)
			if e != api.OK {
				continue
			}
			p, _ := path.Path(c.tree, l.Place)
			if _, ok := taken[end{p, l.Line}]; ok {
				return l, true
			}
			taken[end{p, l.Line}] = struct{}{}
		}
	}
	return irq.Line{}, false
}

// lineless answers how many ctrls have no line.
func (c *checker) lineless() int {
	many := 0
	for _, s := range c.spots {
		if s.kind == Ctrl && len(s.lines) == 0 {
			many++
		}
	}
	return many
}
