package encode

import (
	"arboret/api"
	"arboret/blob"
	"arboret/words"
)

// writer writes a structure, and the texts that it speaks of.
type writer struct {
	structure, texts []byte
	// places are where in the texts the names begin that are there.
	places map[string]uint32
}

// writeRoot answers the structure that says the root, and its texts; ErrMany, where a value can't stand in a blob.
func writeRoot(root api.Node) ([]byte, []byte, api.Errno) {
	w := &writer{places: make(map[string]uint32)}
	if e := w.writeNode(root); e != api.OK {
		return nil, nil, e
	}
	w.put(blob.Last)
	return w.structure, w.texts, api.OK
}

func (w *writer) writeNode(n api.Node) api.Errno {
	w.put(blob.Begin)
	w.structure = append(w.structure, n.Name...)
	w.structure = append(w.structure, 0)
	w.pad()
	for _, p := range n.Props {
		if e := w.writeProp(p); e != api.OK {
			return e
		}
	}
	for _, kid := range n.Kids {
		if e := w.writeNode(kid); e != api.OK {
			return e
		}
	}
	w.put(blob.End)
	return api.OK
}

// writeProp asks how long the value is ahead of writing it, as the values of a tree may be more than memory holds.
func (w *writer) writeProp(p api.Prop) api.Errno {
	if len(p.Value) > api.MaxBlob-len(w.structure) {
		return api.ErrMany
	}
	w.put(blob.Property, uint32(len(p.Value)), w.place(p.Name))
	w.structure = append(w.structure, p.Value...)
	w.pad()
	return api.OK
}

// place answers where in the texts the name begins; it puts it behind them, if it isn't there yet.
func (w *writer) place(s string) uint32 {
	at, ok := w.places[s]
	if !ok {
		at = uint32(len(w.texts))
		w.places[s] = at
		w.texts = append(w.texts, s...)
		w.texts = append(w.texts, 0)
	}
	return at
}

// put appends, as words.Put of all that is written so far would copy it for each cell.
func (w *writer) put(l ...uint32) {
	w.structure = append(w.structure, cells(l...)...)
}

func (w *writer) pad() {
	w.structure = append(w.structure, make([]byte, words.Pad(len(w.structure)))...)
}
