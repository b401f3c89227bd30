package cursor_test

import (
	"math"
	"math/rand"
	"slices"
	"testing"

	"stencil/api"
	"stencil/cursor"
)

// dice makes calls by chance: most that are taken, many at the edges, some that are none.
type dice struct{ *rand.Rand }

func newDice(seed int64) dice { return dice{rand.New(rand.NewSource(seed))} }

func (r dice) oneIn(n int) bool { return r.Intn(n) == 0 }

func (r dice) bytes(n int) []byte {
	b := make([]byte, n)
	for i := range b {
		b[i] = byte(r.Intn(256))
		// Small numbers are lengths that the room may have.
		if r.oneIn(2) {
			b[i] = byte(r.Intn(6))
		}
	}
	return b
}

func (r dice) far() int { return farInts[r.Intn(len(farInts))] }

// place is one at or about the message.
func (r dice) place(m *second) int {
	if r.oneIn(20) {
		return r.far()
	}
	return m.start - 2 + r.Intn(m.end-m.start+5)
}

func (r dice) prim() api.Prim {
	if r.oneIn(12) {
		return noTypes[r.Intn(len(noTypes))]
	}
	return allTypes[r.Intn(len(allTypes))]
}

// word is mostly one of the type.
func (r dice) word(p api.Prim) uint64 {
	if w := r.Uint64(); r.oneIn(8) {
		return w
	}
	spare := 64 - 8*max(1, sizeOf(p))
	w := r.Uint64()
	if isSigned(p) {
		return uint64(int64(w<<spare) >> spare)
	}
	return w << spare >> spare
}

func (r dice) count(m *second) int {
	switch r.Intn(12) {
	case 0:
		return r.far()
	case 1:
		return m.room() + r.Intn(3) - 1
	case 2:
		return -1
	}
	return r.Intn(4)
}

// spot is mostly a good one of a size.
func (r dice) spot(size int) api.Spot {
	s := spot(spotted[r.Intn(3)], r.Intn(max(1, size)))
	switch r.Intn(14) {
	case 0:
		s.Prim = r.prim()
	case 1:
		s.Offset = r.far()
	case 2:
		s.Offset = size - r.Intn(6)
	}
	if r.oneIn(30) {
		return s
	}
	return r.fitting(s, size)
}

// fitting draws a spot that reaches over the end back.
func (r dice) fitting(s api.Spot, size int) api.Spot {
	if s.Offset > 0 && s.Offset <= size && s.Offset+sizeOf(s.Prim) > size {
		s.Offset = max(0, size-sizeOf(s.Prim))
	}
	if sizeOf(s.Prim) > size {
		s.Prim = api.Uint8
	}
	return s
}

func (r dice) size() int {
	if r.oneIn(20) {
		return sizes[r.Intn(len(sizes))]
	}
	return 1 + r.Intn(8)
}

func (r dice) head() api.Head {
	n := r.size()
	return api.Head{Size: n, Block: r.spot(n), Template: r.spot(n), Schema: r.spot(n), Version: r.spot(n)}
}

func (r dice) token(op api.TokenOp) api.Token {
	if r.oneIn(15) {
		op = api.TokenOp(r.Intn(18) - 1)
	}
	n := r.size()
	return api.Token{Op: op, Size: n, A: r.spot(n), B: r.spot(n)}
}

// number is one of a spot, mostly.
func (r dice) number() int {
	switch r.Intn(12) {
	case 0:
		return []int{-1, 254, 255, 256, 65534, 65535, 65536, 1<<32 - 2, 1<<32 - 1, math.MinInt, math.MaxInt}[r.Intn(11)]
	case 1:
		return r.Intn(70000)
	}
	return r.Intn(200)
}

func (r dice) text() string {
	if r.oneIn(6) {
		return string(r.bytes(250 + r.Intn(10)))
	}
	return string(r.bytes(r.Intn(6)))
}

var names = []string{"Claim", "Get", "Put", "Chars", "SetChars", "PutHead", "GetHead", "PutDim", "GetDim", "PutData", "GetData"}

func (r dice) call(m *second) call {
	// Values are asked more often than pieces, which use up the room.
	x := call{name: names[r.Intn(5)]}
	if r.oneIn(4) {
		x.name = names[r.Intn(len(names))]
	}
	x.at, x.n, x.prim, x.text, x.head = r.place(m), r.count(m), r.prim(), r.text(), r.head()
	x.word = r.word(x.prim)
	x.block, x.count = r.number(), r.number()
	x.numbers = cursor.Head{Block: uint64(r.number()), Template: uint64(r.number()), Schema: uint64(r.number()), Version: uint64(r.number())}
	x.token = r.token(api.BeginGroup)
	if x.name == "PutData" || x.name == "GetData" {
		x.token = r.token(api.BeginData)
	}
	return x
}

// P17.1 to P17.7: long rows of calls by chance, each answered as the second cursor answers it; between them the caller writes into his buffer.
func TestRows(t *testing.T) {
	taken, refused := map[string]int{}, map[api.Errno]int{}
	for seed := range int64(3000) {
		r := newDice(seed)
		content := r.bytes(r.Intn(120))
		start := r.Intn(len(content)/2 + 1)
		w := newTwin(t, content, start, 0, api.Endian(r.Intn(2)))
		for range 120 {
			if r.oneIn(10) && len(content) > 0 {
				w.callerWrites(r.Intn(len(content)), byte(r.Intn(256)))
			}
			x := r.call(w.m)
			if got := w.do(x); got.err == api.OK {
				taken[x.name]++
			} else {
				refused[got.err]++
			}
		}
	}
	for _, name := range names {
		if taken[name] < 500 {
			t.Errorf("only %d calls of %s were taken", taken[name], name)
		}
	}
	for _, err := range []api.Errno{api.ErrArg, api.ErrPrim, api.ErrShort, api.ErrRange, api.ErrChars, api.ErrLimit, api.ErrData} {
		if refused[err] < 150 {
			t.Errorf("only %d calls were refused by %v", refused[err], err)
		}
	}
}

// P17.7: whatever is called, no byte ahead of the start or behind the end is changed, the start stays, and the end never falls.
func TestOutsideStays(t *testing.T) {
	for seed := range int64(2000) {
		r := newDice(seed)
		whole := r.bytes(20 + r.Intn(100))
		was := slices.Clone(whole)
		n := r.Intn(len(whole) - 10)
		start := r.Intn(n + 1)
		c := begin(t, whole[:n], start, api.Endian(r.Intn(2)))
		for range 80 {
			at := c.At()
			x := r.call(&second{bytes: whole[:n], start: start, end: at})
			before := slices.Clone(whole)
			a := x.of(c)
			end := c.At()
			switch {
			case c.Start() != start || end < at || end > n || c.Room() != n-end:
				t.Fatalf("%s: Start %d, At %d, Room %d; At was %d", short(x), c.Start(), end, c.Room(), at)
			case !slices.Equal(whole[:start], was[:start]) || !slices.Equal(whole[end:], was[end:]):
				t.Fatalf("%s: bytes outside of %d to %d are changed", short(x), start, end)
			case a.err != api.OK && (end != at || !slices.Equal(whole, before) || a != answer{err: a.err}):
				t.Fatalf("%s: refused by %v, but something has changed, or is answered: %s", short(x), a.err, short(a))
			}
		}
	}
}

// P17.4 to P17.6: rows of pieces that are put are read back by another cursor, which then stands where the first one does.
func TestRowsBack(t *testing.T) {
	for seed := range int64(2000) {
		r := newDice(seed)
		b := r.bytes(300)
		o, start := api.Endian(r.Intn(2)), r.Intn(10)
		c := begin(t, b, start, o)
		var put []call
		for range 40 {
			x := r.call(&second{bytes: b, start: start, end: c.At()})
			x.name = []string{"PutHead", "PutDim", "PutData"}[r.Intn(3)]
			x.head, x.token = r.apart(), r.apartToken(x.name)
			if x.of(c).err == api.OK {
				put = append(put, x)
			}
		}
		back := begin(t, b, start, o)
		for _, x := range put {
			a := call{name: "Get" + x.name[3:], head: x.head, token: x.token}.of(back)
			must := answer{}
			switch x.name {
			case "PutHead":
				must.head = x.numbers
			case "PutDim":
				must.block, must.count = x.block, x.count
			case "PutData":
				must.text = x.text
			}
			if a != must {
				t.Fatalf("%s is read back as %s", short(x), short(a))
			}
		}
		if back.At() != c.At() {
			t.Fatalf("the reader is at %d, the writer at %d", back.At(), c.At())
		}
	}
}

// spread is spots that lie apart, in any order, and the bytes that they lie in.
func (r dice) spread(n int) ([]api.Spot, int) {
	out, at := make([]api.Spot, n), r.Intn(2)
	for _, k := range r.Perm(n) {
		out[k] = spot(spotted[r.Intn(3)], at)
		at += sizeOf(out[k].Prim) + r.Intn(2)
	}
	return out, at
}

func (r dice) apart() api.Head {
	s, n := r.spread(4)
	return api.Head{Size: n, Block: s[0], Template: s[1], Schema: s[2], Version: s[3]}
}

func (r dice) apartToken(name string) api.Token {
	s, n := r.spread(2)
	if name == "PutDim" {
		return dim(n, s[0], s[1])
	}
	return length(n, s[0])
}
