package sbe

import (
	"stencil/api"
	"stencil/words"
)

// The encodings that a frame tells.
const (
	highestFirst = 0x5BE0
	lowestFirst  = 0xEB50
)

// parcel tells what a message of a stream is.
func (c *Codec) parcel(reader int, p api.Parcel) string {
	want(p.Type == c.encoding(), api.ErrFrameType)
	name, tree, size, err := c.Decode(reader, p.Body)
	want(err == api.OK, err)
	want(size == len(p.Body), api.ErrFrameSize)
	return name + " " + c.text(name, reader, tree)
}

// encoding is the one that the frames of the schema's messages tell.
func (b *book) encoding() int {
	if b.schema.Order == api.Big {
		return highestFirst
	}
	return lowestFirst
}

// text is the text of a message's tree at a version.
func (c *Codec) text(name string, version int, tree []api.Val) string {
	return need(words.Print(need(c.Form(name, version)), tree))
}
