package valid

import (
	"arboret/api"
	"arboret/irq"
	"arboret/prop"
	"arboret/tree"
)

const (
	compatible = "compatible"
	status     = "status"
)

// spot is a node where it stands, and what the questions have found of it: of what isn't enabled nothing, so that its kind is None.
type spot struct {
	place   []int
	node    api.Node
	above   *spot
	kids    []*spot
	enabled bool
	kind    Kind
	lines   []irq.Line
}

func (s *spot) isRoot() bool { return s.above == nil }

func (s *spot) isDevice() bool { return s.kind != None && s.kind != Bus }

// isOn answers whether n itself may be enabled, whatever is above it.
func isOn(n api.Node) (bool, api.Errno) {
	value, ok := tree.Find(n, status)
	if !ok {
		return true, api.OK
	}
	text, e := prop.Text(value)
	return text == "okay" || text == "ok", e
}

// kindOf answers what n is, and whether it has the property that says so.
func kindOf(n api.Node) (Kind, bool, api.Errno) {
	value, ok := tree.Find(n, compatible)
	texts, e := prop.Texts(value)
	if e != api.OK {
		return None, false, e
	}
	for _, text := range texts {
		if k := Known(text); k != None {
			return k, ok, api.OK
		}
	}
	return None, ok, api.OK
}
