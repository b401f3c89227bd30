package canon

import (
	"slices"

	"stencil/api"
	"stencil/lay"
)

// unsaid is a number of a declaration of which nothing is said.
const unsaid = -1

func unsaidOffsets(n int) []int { return slices.Repeat([]int{unsaid}, n) }

// block is what lies in a composite, or in the block of a message or group.
type block struct {
	places  []int // in Types, or in Parts
	rooms   []api.Room
	offsets []int
}

func (b *block) add(place, size, offset int) {
	b.places = append(b.places, place)
	b.rooms = append(b.rooms, api.Room{Size: size})
	b.offsets = append(b.offsets, offset)
}

// plain tells the Offsets that have to be said, by place, and the block's length if that has to be.
func (b *block) plain(length int, offsets []int) int {
	rooms, length, err := lay.Plain(b.rooms, b.offsets, length)
	demand(err == api.OK)
	for k, place := range b.places {
		offsets[place] = rooms[k].Offset
	}
	return length
}
