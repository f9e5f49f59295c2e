// Package words is layer 1: numbers of 32 bits, as bytes.
package words

import (
	"bytes"
	"slices"
)

// Get answers the number of the four bytes from at on.
func Get(b []byte, at int) (uint32, bool) {
	v, ok := number(b, at, 4)
	return uint32(v), ok
}

// Get64 answers the number of the eight bytes from at on.
func Get64(b []byte, at int) (uint64, bool) {
	return number(b, at, 8)
}

// Put answers b and the four bytes of v behind it, in memory of its own: what b has as spare room is its owner's.
func Put(b []byte, v uint32) []byte {
	return slices.Concat(b, cell(v))
}

// Put64 answers b and the eight bytes of v behind it, in memory of its own.
func Put64(b []byte, v uint64) []byte {
	return slices.Concat(b, cell(uint32(v>>32)), cell(uint32(v)))
}

// Pad answers how many bytes are missing behind n up to a multiple of 4.
func Pad(n int) int {
	if n < 0 {
		return 0
	}
	return -n & 3
}

// Text answers the bytes from at on up to the next nought.
func Text(b []byte, at int) (string, bool) {
	if at < 0 || at >= len(b) {
		return "", false
	}
	n := bytes.IndexByte(b[at:], 0)
	if n < 0 {
		return "", false
	}
	return string(b[at : at+n]), true
}

// Cell answers b with v in the four bytes from at on, in memory of its own.
func Cell(b []byte, at int, v uint32) ([]byte, bool) {
	if !holds(b, at, 4) {
		return nil, false
	}
	return slices.Concat(b[:at], cell(v), b[at+4:]), true
}

// holds subtracts instead of adding, as at and n could wrap round.
func holds(b []byte, at, n int) bool {
	return at >= 0 && len(b)-at >= n
}

func number(b []byte, at, n int) (uint64, bool) {
	if !holds(b, at, n) {
		return 0, false
	}
	var v uint64
	for _, x := range b[at : at+n] {
		v = v<<8 | uint64(x)
	}
	return v, true
}

func cell(v uint32) []byte {
	return []byte{byte(v >> 24), byte(v >> 16), byte(v >> 8), byte(v)}
}
