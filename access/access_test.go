package access

import (
	"math"
	"testing"

	"arboret/api"
)

// The tests of this file are P16.1's, of what chapter 16 says of all devices.

func TestCheck(t *testing.T) {
	for _, c := range []struct {
		offset uint64
		width  int
		size   uint64
		want   api.Errno
	}{
		{0, 4, 16, api.OK},
		{4, 4, 16, api.OK},
		{12, 4, 16, api.OK},
		{28, 4, 32, api.OK},
		{0, 4, 4, api.OK},
		{16, 4, 16, api.ErrDecode},
		{20, 4, 16, api.ErrDecode},
		{32, 4, 32, api.ErrDecode},
		{0, 4, 0, api.ErrDecode},
		{1 << 32, 4, 16, api.ErrDecode},
		{1 << 63, 4, 32, api.ErrDecode},
		{math.MaxUint64 - 3, 4, 32, api.ErrDecode},
		{math.MaxUint64, 4, 32, api.ErrDecode},
		{1, 4, 16, api.ErrWidth},
		{2, 4, 16, api.ErrWidth},
		{3, 4, 16, api.ErrWidth},
		{6, 4, 16, api.ErrWidth},
		{13, 4, 16, api.ErrWidth},
		{15, 4, 16, api.ErrWidth},
		{0, 0, 16, api.ErrWidth},
		{0, 1, 16, api.ErrWidth},
		{0, 2, 16, api.ErrWidth},
		{0, 3, 16, api.ErrWidth},
		{0, 5, 16, api.ErrWidth},
		{8, 8, 16, api.ErrWidth},
		{0, 16, 16, api.ErrWidth},
		{0, -1, 16, api.ErrWidth},
		{0, -4, 16, api.ErrWidth},
		{0, 1<<32 + 4, 16, api.ErrWidth},
		{0, math.MinInt, 16, api.ErrWidth},
		{0, math.MinInt + 4, 16, api.ErrWidth},
		{0, math.MaxInt, 16, api.ErrWidth},
		{1, 1, 16, api.ErrWidth},
		// The offset is asked ahead of the width.
		{16, 1, 16, api.ErrDecode},
		{17, 3, 16, api.ErrDecode},
		{17, 4, 16, api.ErrDecode},
		{math.MaxUint64, -1, 16, api.ErrDecode},
	} {
		if e := Check(c.offset, c.width, c.size); e != c.want {
			t.Errorf("Check(%d, %d, %d) = %v, not %v", c.offset, c.width, c.size, e, c.want)
		}
	}
}

func TestCheckOfAllNear(t *testing.T) {
	for size := range uint64(40) {
		for offset := range uint64(48) {
			for width := -8; width <= 16; width++ {
				want := api.OK
				switch {
				case offset >= size:
					want = api.ErrDecode
				case width != 4 || offset&3 != 0:
					want = api.ErrWidth
				}
				if e := Check(offset, width, size); e != want {
					t.Errorf("Check(%d, %d, %d) = %v, not %v", offset, width, size, e, want)
				}
			}
		}
	}
}
