package schema

import (
	"stencil/api"
	"stencil/lay"
)

// rooms is what a block is laid of: its sized fields, in order.
type rooms struct {
	fields []int // their places in Parts
	seats  []api.Room
}

func (r *rooms) add(field int, seat api.Room) {
	r.fields, r.seats = append(r.fields, field), append(r.seats, seat)
}

// end is that of the last room, all of whose offsets are known.
func (r *rooms) end() int {
	if len(r.seats) == 0 {
		return 0
	}
	last := r.seats[len(r.seats)-1]
	return last.Offset + last.Size
}

// layout is the block of a message or group, and what was met in that.
type layout struct {
	rooms
	place int            // of the message or group in Parts
	ids   map[int]int    // of all parts in a message; the schema's: of the messages
	names map[string]int // of the parts right inside
	ahead api.Part       // the last of these; the zero part, while there is none
}

func newLayout(place int) *layout {
	return &layout{place: place, ids: map[int]int{}, names: map[string]int{}}
}

// blame is the place of the part that is at fault where lay.Place tells a number.
func (l *layout) blame(n int) int {
	if n < len(l.fields) {
		return l.fields[n]
	}
	return l.place
}

// lay lays the fields into a block that is as long as is written, and tells both.
func (l *layout) lay(parts []api.Part, written int) (api.Errno, int) {
	offsets, block, err, n := lay.Place(l.seats, written)
	if err != api.OK {
		return err, l.blame(n)
	}
	for k, field := range l.fields {
		parts[field].Offset = offsets[k]
	}
	parts[l.place].Block = block
	return api.OK, 0
}
