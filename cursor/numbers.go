package cursor

import (
	"stencil/api"
	"stencil/prim"
)

// number is one of a header, a dimension or a length, and where it stands in that.
type number struct {
	spot  api.Spot
	value uint64
}

// write claims so many bytes for numbers, and writes 0 wherever none of them stands. All that may be refused is asked ahead of the first byte, so that no half is ever written.
func (c *Cursor) write(size int, numbers ...number) api.Errno {
	for _, n := range numbers {
		if n.value > prim.Max(n.spot.Prim) {
			return api.ErrRange
		}
	}
	at, err := c.Claim(size)
	if err != api.OK {
		return err
	}
	c.SetChars(at, size, "")
	for _, n := range numbers {
		c.Put(at+n.spot.Offset, n.spot.Prim, n.value)
	}
	return api.OK
}

// read claims so many bytes, and tells the numbers that stand in them.
func (c *Cursor) read(size int, spots ...api.Spot) ([]uint64, api.Errno) {
	at, err := c.Claim(size)
	if err != api.OK {
		return nil, err
	}
	values := make([]uint64, len(spots))
	for i, s := range spots {
		values[i], _ = c.Get(at+s.Offset, s.Prim)
	}
	return values, api.OK
}

func isHead(h api.Head) bool { return areGood(h.Size, h.Block, h.Template, h.Schema, h.Version) }

func isDimension(t api.Token) bool { return t.Op == api.BeginGroup && areGood(t.Size, t.A, t.B) }

func isLength(t api.Token) bool { return t.Op == api.BeginData && areGood(t.Size, t.A) }

// areGood tells whether numbers may stand at these spots of so many bytes, and so many be there at all.
func areGood(size int, spots ...api.Spot) bool {
	if size < 1 || size > api.MaxBlock {
		return false
	}
	for _, s := range spots {
		if !isGood(s, size) {
			return false
		}
	}
	return true
}

// isGood asks by a difference, since a sum might wrap.
func isGood(s api.Spot, size int) bool {
	switch s.Prim {
	case api.Uint8, api.Uint16, api.Uint32:
		return s.Offset >= 0 && s.Offset <= size-prim.Size(s.Prim)
	}
	return false
}
