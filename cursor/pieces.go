package cursor

import (
	"stencil/api"
	"stencil/prim"
)

// Head is the four numbers of a header.
type Head struct {
	Block, Template, Schema, Version uint64
}

// PutHead claims and writes a message's header, GetHead claims and reads one.
func (c *Cursor) PutHead(h api.Head, v Head) api.Errno {
	if !isHead(h) {
		return api.ErrArg
	}
	return c.write(h.Size, number{h.Block, v.Block}, number{h.Template, v.Template}, number{h.Schema, v.Schema}, number{h.Version, v.Version})
}

func (c *Cursor) GetHead(h api.Head) (Head, api.Errno) {
	if !isHead(h) {
		return Head{}, api.ErrArg
	}
	told, err := c.read(h.Size, h.Block, h.Template, h.Schema, h.Version)
	if err != api.OK {
		return Head{}, err
	}
	return Head{Block: told[0], Template: told[1], Schema: told[2], Version: told[3]}, api.OK
}

// PutDim and GetDim: a group's dimension, by its token.
func (c *Cursor) PutDim(t api.Token, block, count int) api.Errno {
	if !isDimension(t) {
		return api.ErrArg
	}
	// A number below 0 is above all that a spot may tell, as a uint64.
	return c.write(t.Size, number{t.A, uint64(block)}, number{t.B, uint64(count)})
}

func (c *Cursor) GetDim(t api.Token) (int, int, api.Errno) {
	if !isDimension(t) {
		return 0, 0, api.ErrArg
	}
	told, err := c.read(t.Size, t.A, t.B)
	if err != api.OK {
		return 0, 0, err
	}
	return int(told[0]), int(told[1]), api.OK
}

// PutData and GetData: data with its length, by its token.
func (c *Cursor) PutData(t api.Token, s string) api.Errno {
	if !isLength(t) {
		return api.ErrArg
	}
	if uint64(len(s)) > prim.Max(t.A.Prim) {
		return api.ErrData
	}
	// Asked of both together, so that no length is written whose bytes have no room.
	if len(s) > c.Room()-t.Size {
		return api.ErrShort
	}
	c.write(t.Size, number{t.A, uint64(len(s))})
	at := c.grow(len(s))
	return c.SetChars(at, len(s), s)
}

func (c *Cursor) GetData(t api.Token) (s string, err api.Errno) {
	if !isLength(t) {
		return "", api.ErrArg
	}
	end := c.end
	// How many bytes are wanted is known only behind the length, which is claimed by then.
	defer func() {
		if err != api.OK {
			c.end = end
		}
	}()
	told, err := c.read(t.Size, t.A)
	if err != api.OK {
		return "", err
	}
	n := int(told[0])
	at, err := c.Claim(n)
	if err != api.OK {
		return "", err
	}
	return c.Chars(at, n)
}
