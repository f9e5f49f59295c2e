// Package blob says what a blob is made of, for the layer that reads it and the one that writes it.
package blob

const (
	Magic      = 0xd00dfeed
	Version    = 17
	Compatible = 16
)

// The header's cells, in their order.
const (
	MagicCell = iota
	TotalCell
	StructureCell
	TextsCell
	ReservesCell
	VersionCell
	CompatibleCell
	BootCell
	TextsSizeCell
	StructureSizeCell
	Cells
)

// How many bytes each is.
const (
	CellSize    = 4
	WordSize    = 8
	HeaderSize  = Cells * CellSize
	ReserveSize = 2 * WordSize
)

// The tokens.
const (
	Begin    = 1
	End      = 2
	Property = 3
	Nothing  = 4
	Last     = 9
)
