package uart

// pageSize is how many bytes a page holds.
const pageSize = 64

// page is a run of bytes that is full. It is never changed, so that copies of a log may share it.
type page struct {
	ahead *page
	bytes [pageSize]byte
}

// log is bytes, one behind the other. It isn't a slice, as two copies of one would write to the same spare room.
type log struct {
	full *page
	last [pageSize]byte
	size int
}

func (l *log) add(b byte) {
	l.last[l.size%pageSize] = b
	l.size++
	if l.size%pageSize == 0 {
		l.full = &page{ahead: l.full, bytes: l.last}
	}
}

func (l *log) all() []byte {
	b := make([]byte, l.size)
	end := l.size - l.size%pageSize
	copy(b[end:], l.last[:])
	for p := l.full; p != nil; p = p.ahead {
		end -= pageSize
		copy(b[end:], p.bytes[:])
	}
	return b
}
