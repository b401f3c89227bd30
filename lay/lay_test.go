package lay_test

import (
	"math"
	"math/rand"
	"slices"
	"testing"
	"time"

	"stencil/api"
	"stencil/lay"
)

const (
	most  = math.MaxInt
	least = math.MinInt
)

// row makes rooms from pairs of a Size and an Offset.
func row(pairs ...int) []api.Room {
	var rooms []api.Room
	for i := 0; i < len(pairs); i += 2 {
		rooms = append(rooms, api.Room{Size: pairs[i], Offset: pairs[i+1]})
	}
	return rooms
}

func list(numbers ...int) []int { return numbers }

func holdPlace(t *testing.T, rooms []api.Room, block int, offsets []int, length int, err api.Errno, who int) {
	t.Helper()
	o, n, e, w := lay.Place(rooms, block)
	if !slices.Equal(o, offsets) || n != length || e != err || w != who {
		t.Errorf("Place(%v, %d) = %v, %d, %d, %d; want %v, %d, %d, %d", rooms, block, o, n, e, w, offsets, length, err, who)
	}
	if e != api.OK && o != nil {
		t.Errorf("Place(%v, %d): offsets beside an error", rooms, block)
	}
}

func holdGaps(t *testing.T, rooms []api.Room, offsets []int, block int, gaps []api.Room, err api.Errno) {
	t.Helper()
	g, e := lay.Gaps(rooms, offsets, block)
	if !slices.Equal(g, gaps) || e != err || e != api.OK && g != nil {
		t.Errorf("Gaps(%v, %v, %d) = %v, %d; want %v, %d", rooms, offsets, block, g, e, gaps, err)
	}
}

func holdPlain(t *testing.T, rooms []api.Room, offsets []int, block int, plain []api.Room, length int, err api.Errno) {
	t.Helper()
	p, n, e := lay.Plain(rooms, offsets, block)
	if !slices.Equal(p, plain) || n != length || e != err || e != api.OK && p != nil {
		t.Errorf("Plain(%v, %v, %d) = %v, %d, %d; want %v, %d, %d", rooms, offsets, block, p, n, e, plain, length, err)
	}
}

func holdAt(t *testing.T, rooms []api.Room, offsets []int, place, want int) {
	t.Helper()
	if n := lay.At(rooms, offsets, place); n != want {
		t.Errorf("At(%v, %v, %d) = %d; want %d", rooms, offsets, place, n, want)
	}
}

// P7.1: rooms that are laid, the chapter's among them.
func TestPlace(t *testing.T) {
	for _, c := range []struct {
		rooms   []api.Room
		block   int
		offsets []int
		length  int
	}{
		{row(4, -1, 2, -1, 8, 8), -1, list(0, 4, 8), 16},
		{row(4, -1, 2, -1, 8, 8), 20, list(0, 4, 8), 20},
		{row(4, -1, 2, -1, 8, 8), 16, list(0, 4, 8), 16},
		{row(4, 2, 2, 6), -1, list(2, 6), 8},
		{row(4, 2, 2, -1), -1, list(2, 6), 8},
		{row(1, 0), -1, list(0), 1},
		{nil, -1, nil, 0},
		{[]api.Room{}, -1, nil, 0},
		{nil, 7, nil, 7},
		{nil, 0, nil, 0},
		{nil, 65535, nil, 65535},
		{row(65535, -1), -1, list(0), 65535},
		{row(65535, 0), 65535, list(0), 65535},
		{row(65534, 1), -1, list(1), 65535},
		{row(1, 65534, 0, -1), -1, list(65534, 65535), 65535},
		{row(0, 65535), -1, list(65535), 65535},
		{row(0, -1, 0, -1), -1, list(0, 0), 0},
		{row(0, -1, 0, -1), 0, list(0, 0), 0},
		{row(0, 3, 0, 3, 2, -1, 0, 5, 1, 5), -1, list(3, 3, 3, 5, 5), 6},
		{row(0, 3), -1, list(3), 3},
	} {
		holdPlace(t, c.rooms, c.block, c.offsets, c.length, api.OK, 0)
	}
}

// P7.1: each fault by itself, with the number of the room or of all rooms.
func TestPlaceFaults(t *testing.T) {
	for _, c := range []struct {
		rooms []api.Room
		block int
		err   api.Errno
		who   int
	}{
		{nil, -2, api.ErrLayArg, 0},
		{row(1, -1), -2, api.ErrLayArg, 1},
		{row(1, -1, 1, -1), least, api.ErrLayArg, 2},
		{nil, 65536, api.ErrLayBig, 0},
		{row(1, -1), 65536, api.ErrLayBig, 1},
		{row(1, -1, 1, -1), most, api.ErrLayBig, 2},
		{row(-1, 0), -1, api.ErrLayArg, 0},
		{row(-1, -1), -1, api.ErrLayArg, 0},
		{row(3, -1, -3, -1), -1, api.ErrLayArg, 1},
		{row(3, -1, least, -1), -1, api.ErrLayArg, 1},
		{row(1, -2), -1, api.ErrLayArg, 0},
		{row(1, -1, 1, -1, 1, -2), -1, api.ErrLayArg, 2},
		{row(1, least), -1, api.ErrLayArg, 0},
		{row(0, -2), -1, api.ErrLayArg, 0},
		{row(4, 2, 2, 5), -1, api.ErrLayOver, 1},
		{row(4, -1, 2, 0), -1, api.ErrLayOver, 1},
		{row(4, -1, 0, 3), -1, api.ErrLayOver, 1},
		{row(0, 4, 1, 3), -1, api.ErrLayOver, 1},
		{row(1, -1, 1, 1, 1, 1), -1, api.ErrLayOver, 2},
		{row(65536, -1), -1, api.ErrLayBig, 0},
		{row(65535, 1), -1, api.ErrLayBig, 0},
		{row(65535, -1, 1, -1), -1, api.ErrLayBig, 1},
		{row(0, 65536), -1, api.ErrLayBig, 0},
		{row(1, 65535), -1, api.ErrLayBig, 0},
		{row(1, most), -1, api.ErrLayBig, 0},
		{row(most, most), -1, api.ErrLayBig, 0},
		{row(most, -1), -1, api.ErrLayBig, 0},
		{row(most, 1), -1, api.ErrLayBig, 0},
		{row(1, -1, most, -1), -1, api.ErrLayBig, 1},
		{row(65535, -1, most, most), -1, api.ErrLayBig, 1},
		{row(4, -1, 2, -1, 8, 8), 15, api.ErrLayBlock, 3},
		{row(1, -1), 0, api.ErrLayBlock, 1},
		{row(0, 1), 0, api.ErrLayBlock, 1},
		{row(65535, -1), 65534, api.ErrLayBlock, 1},
	} {
		holdPlace(t, c.rooms, c.block, nil, 0, c.err, c.who)
	}
}

// P7.1: of two faults the one that the chapter names first: the block's own, then the rooms' from the first on (of one room its numbers, that it lies over another, its end), then that the block is too short.
func TestPlaceFaultOrder(t *testing.T) {
	for _, c := range []struct {
		rooms []api.Room
		block int
		err   api.Errno
		who   int
	}{
		{row(-1, -1), -2, api.ErrLayArg, 1},
		{row(65536, -1), -2, api.ErrLayArg, 1},
		{row(4, -1, 1, 0), -2, api.ErrLayArg, 2},
		{row(-1, -1), 65536, api.ErrLayBig, 1},
		{row(4, -1, 1, 0), 65536, api.ErrLayBig, 2},
		{row(65536, -1, 1, -1), 65536, api.ErrLayBig, 2},
		{row(4, -1, -1, 0), -1, api.ErrLayArg, 1},
		{row(4, -1, -1, most), -1, api.ErrLayArg, 1},
		{row(4, -1, most, -2), -1, api.ErrLayArg, 1},
		{row(4, -1, 65536, 3), -1, api.ErrLayOver, 1},
		{row(4, -1, most, 3), -1, api.ErrLayOver, 1},
		{row(65536, -1, -1, -1), -1, api.ErrLayBig, 0},
		{row(65536, -1, 1, 0), -1, api.ErrLayBig, 0},
		{row(4, -1, 1, 3, -1, -1), -1, api.ErrLayOver, 1},
		{row(-1, -1, 65536, -1), -1, api.ErrLayArg, 0},
		{row(4, -1, -1, -1), 3, api.ErrLayArg, 1},
		{row(4, -1, 1, 3), 3, api.ErrLayOver, 1},
		{row(4, -1, 65535, -1), 3, api.ErrLayBig, 1},
	} {
		holdPlace(t, c.rooms, c.block, nil, 0, c.err, c.who)
	}
}

// P7.2: gaps ahead, between, behind, all, none; rooms without bytes cut none.
func TestGaps(t *testing.T) {
	for _, c := range []struct {
		rooms   []api.Room
		offsets []int
		block   int
		gaps    []api.Room
	}{
		{row(4, 0, 2, 0), list(2, 8), 12, row(2, 0, 2, 6, 2, 10)},
		{row(0, 0), list(3), 5, row(5, 0)},
		{nil, nil, 0, nil},
		{nil, nil, 5, row(5, 0)},
		{nil, nil, 65535, row(65535, 0)},
		{[]api.Room{}, []int{}, 1, row(1, 0)},
		{row(4, 0), list(0), 4, nil},
		{row(4, 0), list(1), 5, row(1, 0)},
		{row(4, 0), list(0), 5, row(1, 4)},
		{row(4, 0, 1, 0), list(0, 4), 5, nil},
		{row(4, 0, 1, 0), list(0, 5), 6, row(1, 4)},
		{row(0, 0), list(0), 0, nil},
		{row(0, 0, 0, 0), list(0, 5), 5, row(5, 0)},
		{row(2, 0, 0, 0, 0, 0, 2, 0), list(0, 2, 4, 6), 8, row(4, 2)},
		{row(2, 0, 0, 0, 2, 0), list(0, 2, 2), 4, nil},
		{row(1, 0, 0, 0), list(0, 3), 5, row(4, 1)},
		{row(65535, 0), list(0), 65535, nil},
		{row(1, 0), list(65534), 65535, row(65534, 0)},
		{row(0, 0), list(65535), 65535, row(65535, 0)},
		{row(1, -7, 1, most, 1, least), list(0, 2, 4), 5, row(1, 1, 1, 3)},
	} {
		holdGaps(t, c.rooms, c.offsets, c.block, c.gaps, api.OK)
	}
}

// notLaid is blocks that aren't laid, each by one thing alone.
var notLaid = []struct {
	rooms   []api.Room
	offsets []int
	block   int
}{
	{row(4, 0), list(0), 3},
	{row(4, 0), nil, 9},
	{row(4, 0, 1, 0), list(0), 9},
	{row(4, 0), list(0, 4), 9},
	{nil, list(0), 9},
	{row(4, 0, 1, 0), list(0, 3), 9},
	{row(4, 0, 1, 0), list(4, 0), 9},
	{row(4, 0, 0, 0), list(0, 3), 9},
	{row(0, 0, 0, 0), list(3, 2), 9},
	{row(-1, 0), list(0), 9},
	{row(-1, 0), list(1), 9},
	{row(least, 0), list(most), 9},
	{row(1, 0), list(-1), 9},
	{row(1, -1), list(-1), 9},
	{row(0, 0), list(-1), 9},
	{row(1, 0, 1, 0), list(0, -1), 9},
	{row(1, 0), list(-2), 9},
	{row(1, 0), list(least), 9},
	{row(most, 0), list(least), 9},
	{row(most, 0), list(0), 9},
	{row(most, 0), list(most), 9},
	{row(most, 0, most, 0), list(2, most), 9},
	{row(1, 0), list(most), 9},
	{row(0, 0), list(10), 9},
	{row(65536, 0), list(0), 65536},
	{row(65535, 0), list(1), 65535},
	{row(1, 0), list(0), 65536},
	{row(1, 0), list(0), most},
	{row(1, 0), list(0), -1},
	{row(0, 0), list(0), -1},
	{nil, nil, -1},
	{nil, nil, -2},
	{nil, nil, least},
	{nil, nil, 65536},
	{nil, nil, most},
}

// P7.2, P7.3: what is no laid block has one error.
func TestNotLaid(t *testing.T) {
	for _, c := range notLaid {
		holdGaps(t, c.rooms, c.offsets, c.block, nil, api.ErrLayArg)
		holdPlain(t, c.rooms, c.offsets, c.block, nil, 0, api.ErrLayArg)
	}
}

// P7.3: an offset, and the block's length, is told where it can't be left out.
func TestPlain(t *testing.T) {
	for _, c := range []struct {
		rooms   []api.Room
		offsets []int
		block   int
		plain   []api.Room
		length  int
	}{
		{row(4, 0, 2, 0, 1, 0), list(0, 4, 9), 10, row(4, -1, 2, -1, 1, 9), -1},
		{row(4, 0), list(1), 7, row(4, 1), 7},
		{nil, nil, 0, nil, -1},
		{nil, nil, 3, nil, 3},
		{nil, nil, 65535, nil, 65535},
		{row(4, 0), list(0), 4, row(4, -1), -1},
		{row(4, 0), list(0), 5, row(4, -1), 5},
		{row(4, 0), list(1), 5, row(4, 1), -1},
		{row(0, 0, 0, 0), list(0, 0), 0, row(0, -1, 0, -1), -1},
		{row(0, 0, 0, 0, 2, 0), list(1, 1, 1), 3, row(0, 1, 0, -1, 2, -1), -1},
		{row(0, 0), list(3), 5, row(0, 3), 5},
		{row(65535, 0), list(0), 65535, row(65535, -1), -1},
		{row(0, 0), list(65535), 65535, row(0, 65535), -1},
		{row(65534, 0), list(0), 65535, row(65534, -1), 65535},
		{row(1, -7, 1, most, 1, least), list(0, 2, 3), 4, row(1, -1, 1, 2, 1, -1), -1},
	} {
		holdPlain(t, c.rooms, c.offsets, c.block, c.plain, c.length, api.OK)
	}
}

// P7.4: the least room that has the place; which of the two lists is longer, and whether the block is laid, doesn't matter.
func TestAt(t *testing.T) {
	two := row(4, 0, 2, 0)
	for _, c := range []struct {
		rooms   []api.Room
		offsets []int
		place   int
		want    int
	}{
		{two, list(0, 8), 3, 0}, {two, list(0, 8), 4, -1}, {two, list(0, 8), 9, 1}, {two, list(0, 8), -1, -1},
		{two, list(0, 8), 0, 0}, {two, list(0, 8), 7, -1}, {two, list(0, 8), 8, 1}, {two, list(0, 8), 10, -1},
		{two, list(0, 8), most, -1}, {two, list(0, 8), least, -1},
		{row(0, 0), list(5), 5, -1}, {row(0, 0), list(5), 4, -1}, {row(0, 0), list(5), 6, -1},
		{row(0, 0, 1, 0), list(5, 5), 5, 1},
		{nil, nil, 0, -1}, {two, nil, 0, -1}, {nil, list(0, 8), 0, -1},
		{two, list(0), 8, -1}, {two, list(0), 3, 0}, {two, list(0, 8, 20), 20, -1}, {row(4, 0), list(0, 8), 8, -1},
		{row(4, 0, 4, 0), list(0, 0), 2, 0}, {row(2, 0, 4, 0), list(0, 0), 2, 1}, {row(2, 0, 2, 0), list(4, 0), 1, 1}, {row(4, 0, 4, 0), list(2, 0), 3, 0},
		{row(5, 0), list(-3), -3, 0}, {row(5, 0), list(-3), 1, 0}, {row(5, 0), list(-3), 2, -1}, {row(5, 0), list(-3), -4, -1},
		{row(-1, 0), list(0), 0, -1}, {row(-1, 0), list(0), -1, -1}, {row(-5, 0), list(4), 2, -1}, {row(least, 0), list(most), 0, -1}, {row(least, 0), list(0), 7, -1}, {row(least, 0), list(least), least, -1}, {row(least, 0), list(least), 0, -1}, {row(-1, 0), list(least), most, -1},
		{row(most, 0), list(9), most, 0}, {row(most, 0), list(9), 9, 0}, {row(most, 0), list(9), 8, -1},
		{row(most, 0), list(0), most, -1}, {row(most, 0), list(0), most - 1, 0}, {row(most, 0), list(1), most, 0},
		{row(1, 0), list(most), most, 0}, {row(most, 0), list(most), most, 0}, {row(most, 0), list(most), most - 1, -1}, {row(0, 0), list(most), most, -1},
		{row(most, 0), list(least), least, 0}, {row(most, 0), list(least), -2, 0}, {row(most, 0), list(least), -1, -1}, {row(most, 0), list(least), most, -1}, {row(7, 0), list(least), most, -1}, {row(1, 0), list(least), least, 0},
		{row(7, 3, 1, -1), list(1 << 20), 1<<20 + 6, 0},
	} {
		holdAt(t, c.rooms, c.offsets, c.place, c.want)
	}
}

// holdAll holds all calls against the second ones.
func holdAll(t *testing.T, rooms []api.Room, offsets []int, block int) {
	t.Helper()
	o, n, e, w := secondPlace(rooms, block)
	holdPlace(t, rooms, block, o, n, e, w)
	g, e := secondGaps(rooms, offsets, block)
	holdGaps(t, rooms, offsets, block, g, e)
	p, n, e := secondPlain(rooms, offsets, block)
	holdPlain(t, rooms, offsets, block, p, n, e)
	holdAt(t, rooms, offsets, block, secondAt(rooms, offsets, block))
}

// P7.1 to P7.4: every row of up to two rooms of these numbers, with every block and every list of up to two offsets of them, the bounds' too.
func TestAllShort(t *testing.T) {
	numbers := list(least, -2, -1, 0, 1, 2, 4, 65535, 65536, most)
	one := len(numbers)
	for size := range one {
		for offset := range one {
			for block := range one {
				rooms := row(numbers[size], numbers[offset])
				holdAll(t, rooms, nil, numbers[block])
				for at := range one {
					holdAll(t, rooms, list(numbers[at]), numbers[block])
					holdAll(t, rooms, list(numbers[at], numbers[size]), numbers[block])
				}
			}
		}
	}
	for k := range one * one * one * one {
		a, b, c, d := numbers[k%one], numbers[k/one%one], numbers[k/one/one%one], numbers[k/one/one/one]
		for _, block := range numbers {
			holdAll(t, row(a, b, c, d), list(b, d), block)
		}
	}
}

// someRow is a row of rooms that mostly can be laid, with the offsets at which it would be, and a block.
func someRow(random *rand.Rand) ([]api.Room, []int, int) {
	var rooms []api.Room
	var offsets []int
	end := 0
	for range random.Intn(6) {
		room := api.Room{Size: random.Intn(4), Offset: -1}
		gap := max(0, random.Intn(5)-2)
		if gap > 0 || random.Intn(3) == 0 {
			room.Offset = end + gap
		}
		offsets = append(offsets, end+gap)
		end += gap + room.Size
		rooms = append(rooms, room)
	}
	return rooms, offsets, end + max(0, random.Intn(5)-2)
}

// spoil changes one of the numbers, mostly by little.
func spoil(random *rand.Rand, rooms []api.Room, offsets []int, block *int) {
	by := list(-2, -1, 1, 2, 65530, most, least)[random.Intn(7)]
	switch n := random.Intn(len(rooms)*3 + 1); {
	case n == 0:
		*block += by
	case n%3 == 0:
		rooms[n/3-1].Size += by
	case n%3 == 1:
		rooms[n/3].Offset += by
	default:
		offsets[n/3] += by
	}
}

// P7.1 to P7.4: many rows, as they are and spoilt, against the second calls.
func TestMany(t *testing.T) {
	random := rand.New(rand.NewSource(7))
	for range 40000 {
		rooms, offsets, block := someRow(random)
		for range 3 {
			holdAll(t, rooms, offsets, block)
			for place := -2; place < 20; place++ {
				holdAt(t, rooms, offsets, place, secondAt(rooms, offsets, place))
			}
			spoil(random, rooms, offsets, &block)
		}
	}
}

// P7.3: Place of what Plain answers gives the offsets and the block again, and not if one more offset were left out.
func TestPlaceOfPlain(t *testing.T) {
	random := rand.New(rand.NewSource(73))
	for range 20000 {
		rooms, offsets, block := someRow(random)
		plain, length, err := lay.Plain(rooms, offsets, block)
		if err != api.OK {
			t.Fatalf("Plain(%v, %v, %d): %d", rooms, offsets, block, err)
		}
		holdPlace(t, plain, length, offsets, block, api.OK, 0)
		for i := range plain {
			if plain[i].Offset == -1 {
				continue
			}
			fewer := slices.Clone(plain)
			fewer[i].Offset = -1
			if o, n, e, _ := lay.Place(fewer, length); e == api.OK && n == block && slices.Equal(o, offsets) {
				t.Errorf("Plain(%v, %v, %d) = %v, %d: the offset of %d says nothing", rooms, offsets, block, plain, length, i)
			}
		}
		if o, n, e, _ := lay.Place(plain, -1); length != -1 && e == api.OK && n == block && slices.Equal(o, offsets) {
			t.Errorf("Plain(%v, %v, %d) = %v, %d: the block says nothing", rooms, offsets, block, plain, length)
		}
	}
}

// P7.1, P7.2, P7.3: what Place has laid is a laid block, and rooms and gaps take each byte of it just once.
func TestPlacedIsLaid(t *testing.T) {
	random := rand.New(rand.NewSource(71))
	for range 20000 {
		rooms, _, block := someRow(random)
		if random.Intn(2) == 0 {
			block = -1
		}
		offsets, length, err, _ := lay.Place(rooms, block)
		gaps, gapErr := lay.Gaps(rooms, offsets, length)
		plain, short, plainErr := lay.Plain(rooms, offsets, length)
		if err != api.OK || gapErr != api.OK || plainErr != api.OK {
			t.Fatalf("%v, %d: %d, %d, %d", rooms, block, err, gapErr, plainErr)
		}
		holdPlace(t, plain, short, offsets, length, api.OK, 0)
		gapOffsets := make([]int, len(gaps))
		for i, gap := range gaps {
			gapOffsets[i] = gap.Offset
		}
		for place := range length {
			if (lay.At(rooms, offsets, place) == -1) != (lay.At(gaps, gapOffsets, place) != -1) {
				t.Errorf("%v at %v, block %d, gaps %v: byte %d", rooms, offsets, length, gaps, place)
			}
		}
	}
}

// roomy is a copy with room behind it that is filled.
func roomy[T any](items []T, filler T) []T {
	long := append(slices.Clone(items), filler, filler, filler)
	return long[:len(items)]
}

func holdSame[T comparable](t *testing.T, what string, items, before []T, filler T) {
	t.Helper()
	if !slices.Equal(items, before) || !slices.Equal(items[:len(items)+3][len(items):], []T{filler, filler, filler}) {
		t.Errorf("%s: what was handed in has changed: %v", what, items[:len(items)+3])
	}
}

// P7.1 to P7.4, P0.1: nothing that is handed in changes, nor the room behind it; a fault leaves it too.
func TestArgumentsStay(t *testing.T) {
	filler := api.Room{Size: 77, Offset: -77}
	random := rand.New(rand.NewSource(70))
	for range 3000 {
		rooms, offsets, block := someRow(random)
		if random.Intn(2) == 0 {
			spoil(random, rooms, offsets, &block)
		}
		r, o := roomy(rooms, filler), roomy(offsets, -77)
		lay.Place(r, block)
		lay.Gaps(r, o, block)
		lay.Plain(r, o, block)
		lay.At(r, o, block)
		holdSame(t, "rooms", r, rooms, filler)
		holdSame(t, "offsets", o, offsets, -77)
	}
}

// scribble writes over a list and the room behind it.
func scribble[T any](items []T, with T) {
	items = items[:cap(items)]
	for i := range items {
		items[i] = with
	}
}

// P7.1 to P7.3, P0.1: what is answered shares no memory with an argument nor with another answer.
func TestAnswersAreNew(t *testing.T) {
	rooms, offsets, block := row(4, -1, 2, 6, 1, -1), list(0, 6, 8), 12
	keptRooms, keptOffsets := slices.Clone(rooms), slices.Clone(offsets)
	spoilt := api.Room{Size: 99, Offset: 99}
	o, _, _, _ := lay.Place(rooms, block)
	g, _ := lay.Gaps(rooms, offsets, block)
	p, _, _ := lay.Plain(rooms, offsets, block)
	o2, _, _, _ := lay.Place(rooms, block)
	g2, _ := lay.Gaps(rooms, offsets, block)
	p2, _, _ := lay.Plain(rooms, offsets, block)
	scribble(o, 99)
	scribble(g, spoilt)
	scribble(p, spoilt)
	if !slices.Equal(rooms, keptRooms) || !slices.Equal(offsets, keptOffsets) {
		t.Errorf("an answer shares memory with an argument: %v, %v", rooms, offsets)
	}
	scribble(rooms, spoilt)
	scribble(offsets, 99)
	if !slices.Equal(o2, list(0, 6, 8)) || !slices.Equal(g2, row(2, 4, 3, 9)) || !slices.Equal(p2, row(4, -1, 2, 6, 1, -1)) {
		t.Errorf("an answer shares memory: %v, %v, %v", o2, g2, p2)
	}
	holdPlace(t, keptRooms, block, list(0, 6, 8), 12, api.OK, 0)
	holdGaps(t, keptRooms, keptOffsets, block, row(2, 4, 3, 9), api.OK)
	holdPlain(t, keptRooms, keptOffsets, block, row(4, -1, 2, 6, 1, -1), 12, api.OK)
}

// P7.1 to P7.4: there is no limit on the number of rooms, and the work is linear: a list of a million rooms is done at once.
func TestManyRooms(t *testing.T) {
	const many = 1000000
	begun := time.Now()
	rooms, offsets := make([]api.Room, many), make([]int, many)
	for i := range rooms {
		rooms[i].Offset = -1
	}
	for i := range 65535 {
		rooms[i].Size = 1
		offsets[i] = i
	}
	for i := 65535; i < many; i++ {
		offsets[i] = 65535
	}
	if o, n, err, who := lay.Place(rooms, -1); !slices.Equal(o, offsets) || n != 65535 || err != api.OK || who != 0 {
		t.Errorf("Place: %d offsets, %d, %d, %d", len(o), n, err, who)
	}
	if g, err := lay.Gaps(rooms, offsets, 65535); len(g) != 0 || err != api.OK {
		t.Errorf("Gaps: %d of them, %d", len(g), err)
	}
	if p, n, err := lay.Plain(rooms, offsets, 65535); !slices.Equal(p, rooms) || n != -1 || err != api.OK {
		t.Errorf("Plain: %d rooms, %d, %d", len(p), n, err)
	}
	if none, last := lay.At(rooms, offsets, 65535), lay.At(rooms, offsets, 65534); none != -1 || last != 65534 {
		t.Errorf("At: %d, %d", none, last)
	}
	rooms[many-1].Size = 1
	if _, _, err, who := lay.Place(rooms, -1); err != api.ErrLayBig || who != many-1 {
		t.Errorf("Place of one byte too many: %d, %d", err, who)
	}
	if took := time.Since(begun); took > 20*time.Second {
		t.Errorf("a million rooms took %v", took)
	}
}
