package lay_test

import (
	"math/big"

	"stencil/api"
)

// The calls once more, from the chapter's words: with whole numbers that can't wrap, and with the bytes of a block one by one.

func whole(n int) *big.Int { return big.NewInt(int64(n)) }

func sum(a, b int) *big.Int { return new(big.Int).Add(whole(a), whole(b)) }

func below(a, b *big.Int) bool { return a.Cmp(b) < 0 }

func secondPlace(rooms []api.Room, block int) ([]int, int, api.Errno, int) {
	if block < -1 {
		return nil, 0, api.ErrLayArg, len(rooms)
	}
	if block > 65535 {
		return nil, 0, api.ErrLayBig, len(rooms)
	}
	var offsets []int
	end := whole(0)
	for i, room := range rooms {
		if room.Size < 0 || room.Offset < -1 {
			return nil, 0, api.ErrLayArg, i
		}
		if room.Offset >= 0 && below(whole(room.Offset), end) {
			return nil, 0, api.ErrLayOver, i
		}
		from := end
		if room.Offset != -1 {
			from = whole(room.Offset)
		}
		end = new(big.Int).Add(from, whole(room.Size))
		if below(whole(65535), end) {
			return nil, 0, api.ErrLayBig, i
		}
		offsets = append(offsets, int(from.Int64()))
	}
	if block >= 0 && below(whole(block), end) {
		return nil, 0, api.ErrLayBlock, len(rooms)
	}
	if block == -1 {
		block = int(end.Int64())
	}
	return offsets, block, api.OK, 0
}

func secondLaid(rooms []api.Room, offsets []int, block int) bool {
	if len(rooms) != len(offsets) || block > 65535 {
		return false
	}
	end := whole(0)
	for i, room := range rooms {
		if room.Size < 0 || below(whole(offsets[i]), end) {
			return false
		}
		end = sum(offsets[i], room.Size)
	}
	return !below(whole(block), end)
}

func secondGaps(rooms []api.Room, offsets []int, block int) ([]api.Room, api.Errno) {
	if !secondLaid(rooms, offsets, block) {
		return nil, api.ErrLayArg
	}
	taken := make([]bool, block)
	for i, room := range rooms {
		for k := range room.Size {
			taken[offsets[i]+k] = true
		}
	}
	var gaps []api.Room
	for i := 0; i < block; i++ {
		if taken[i] {
			continue
		}
		from := i
		for i < block && !taken[i] {
			i++
		}
		gaps = append(gaps, api.Room{Size: i - from, Offset: from})
	}
	return gaps, api.OK
}

func secondPlain(rooms []api.Room, offsets []int, block int) ([]api.Room, int, api.Errno) {
	if !secondLaid(rooms, offsets, block) {
		return nil, 0, api.ErrLayArg
	}
	var plain []api.Room
	end := 0
	for i, room := range rooms {
		told := api.Room{Size: room.Size, Offset: offsets[i]}
		if offsets[i] == end {
			told.Offset = -1
		}
		plain = append(plain, told)
		end = offsets[i] + room.Size
	}
	if block == end {
		block = -1
	}
	return plain, block, api.OK
}

func secondAt(rooms []api.Room, offsets []int, place int) int {
	for i := 0; i < len(rooms) && i < len(offsets); i++ {
		if offsets[i] <= place && below(whole(place), sum(offsets[i], rooms[i].Size)) {
			return i
		}
	}
	return -1
}
