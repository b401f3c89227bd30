package lay

import "stencil/api"

// behind is the Offset of a room, or the length of a block, that nothing is said of: right behind the room ahead.
const behind = -1

// row is what a row of rooms has been laid up to, and what is told of it.
type row struct {
	end     int        // of the room that was laid last
	taken   int        // the end of the last one that has a byte
	block   int        // the block's length, once all rooms are laid
	offsets []int      // by place
	told    []api.Room // by gap and plain
}

// fill lays the rooms by one of the row's functions, and the block around them. With a fault comes the number of the room, or of all rooms where the block is at fault, and the row is empty again.
func (r *row) fill(rooms []api.Room, one func(api.Room) api.Errno, block int) (err api.Errno, who int) {
	defer func() {
		if err != api.OK {
			*r = row{}
		}
	}()
	if err = blockFault(block); err != api.OK {
		return err, len(rooms)
	}
	for i, room := range rooms {
		if err = one(room); err != api.OK {
			return err, i
		}
	}
	if err = r.close(block); err != api.OK {
		return err, len(rooms)
	}
	return api.OK, 0
}

// refill lays the rooms again at the offsets that they have; whatever is wrong with them or the block, it is one error: no laid block.
func (r *row) refill(rooms []api.Room, offsets []int, one func(api.Room) api.Errno, block int) api.Errno {
	if block < 0 || len(rooms) != len(offsets) {
		return api.ErrLayArg
	}
	seats := make([]api.Room, len(rooms))
	for i, offset := range offsets {
		// The row would take -1 as unsaid.
		if offset < 0 {
			return api.ErrLayArg
		}
		seats[i] = api.Room{Size: rooms[i].Size, Offset: offset}
	}
	if err, _ := r.fill(seats, one, block); err != api.OK {
		return api.ErrLayArg
	}
	return api.OK
}

// lay takes one more room into the row.
func (r *row) lay(room api.Room) api.Errno {
	offset := said(room.Offset, r.end)
	switch {
	case room.Size < 0 || offset < 0:
		return api.ErrLayArg
	case offset < r.end:
		return api.ErrLayOver
	case offset > api.MaxBlock-room.Size: // the sum could wrap, the difference can't
		return api.ErrLayBig
	}
	r.end = offset + room.Size
	return api.OK
}

// place lays a room and keeps its offset.
func (r *row) place(room api.Room) api.Errno {
	if err := r.lay(room); err != api.OK {
		return err
	}
	r.offsets = append(r.offsets, r.end-room.Size)
	return api.OK
}

// gap lays a room and tells the gap ahead of it; one without bytes cuts no gap in two.
func (r *row) gap(room api.Room) api.Errno {
	if err := r.lay(room); err != api.OK {
		return err
	}
	if room.Size > 0 {
		r.tellGap(room.Offset)
		r.taken = r.end
	}
	return api.OK
}

// tellGap tells the gap from the last byte taken up to a place, if it is one.
func (r *row) tellGap(upTo int) {
	if upTo > r.taken {
		r.told = append(r.told, api.Room{Size: upTo - r.taken, Offset: r.taken})
	}
}

// plain lays a room and tells it with no more of an offset than it needs.
func (r *row) plain(room api.Room) api.Errno {
	offset := unsaid(room.Offset, r.end)
	if err := r.lay(room); err != api.OK {
		return err
	}
	r.told = append(r.told, api.Room{Size: room.Size, Offset: offset})
	return api.OK
}

// close ends the block behind the rooms.
func (r *row) close(block int) api.Errno {
	r.block = said(block, r.end)
	if r.block < r.end {
		return api.ErrLayBlock
	}
	return api.OK
}

func blockFault(block int) api.Errno {
	switch {
	case block < behind:
		return api.ErrLayArg
	case block > api.MaxBlock:
		return api.ErrLayBig
	}
	return api.OK
}

// said is the number that is meant: the one that is written, or the end where none is.
func said(number, end int) int {
	if number == behind {
		return end
	}
	return number
}

// unsaid is the way back: what has to be written so that a number is meant.
func unsaid(number, end int) int {
	if number == end {
		return behind
	}
	return number
}

// holds tells whether a room has a byte at a place. The distance is taken without a sign, since that of two whole numbers that are far apart has no room in an int.
func holds(size, offset, place int) bool {
	return size > 0 && offset <= place && uint(place)-uint(offset) < uint(size)
}
