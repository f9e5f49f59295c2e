// Package access says where the devices of layers 16 to 20 may be read and written, which is the same of all of them.
package access

import "arboret/api"

// Width is how many bytes a cell is, and each access.
const Width = 4

// Check answers what is wrong first with an access to a device of size bytes.
func Check(offset uint64, width int, size uint64) api.Errno {
	if offset >= size {
		return api.ErrDecode
	}
	if width != Width || offset%Width != 0 {
		return api.ErrWidth
	}
	return api.OK
}
