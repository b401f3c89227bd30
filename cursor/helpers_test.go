package cursor_test

import (
	"bytes"
	"fmt"
	"math"
	"slices"
	"strconv"
	"testing"

	"stencil/api"
	"stencil/cursor"
)

var (
	orders   = []api.Endian{api.Little, api.Big}
	noOrders = []api.Endian{-1, 2, 3, 256, math.MaxInt32, math.MaxInt, math.MinInt}
	allTypes = []api.Prim{api.Char, api.Int8, api.Int16, api.Int32, api.Int64, api.Uint8, api.Uint16, api.Uint32, api.Uint64, api.Float, api.Double}
	noTypes  = []api.Prim{-1, 11, 12, 256, math.MaxInt, math.MinInt}
	spotted  = []api.Prim{api.Uint8, api.Uint16, api.Uint32}
	farInts  = []int{math.MinInt, math.MinInt + 1, -65536, 65536, math.MaxInt32, math.MaxInt - 8, math.MaxInt - 7, math.MaxInt - 1, math.MaxInt}
)

func spot(p api.Prim, at int) api.Spot { return api.Spot{Prim: p, Offset: at} }

func dim(size int, a, b api.Spot) api.Token {
	return api.Token{Op: api.BeginGroup, Size: size, A: a, B: b}
}

func length(size int, a api.Spot) api.Token { return api.Token{Op: api.BeginData, Size: size, A: a} }

// plainHead is a header of four numbers of a type, one right behind the other.
func plainHead(p api.Prim) api.Head {
	n := sizeOf(p)
	return api.Head{Size: 4 * n, Block: spot(p, 0), Template: spot(p, n), Schema: spot(p, 2*n), Version: spot(p, 3*n)}
}

// call is one of a cursor, with all that any may be handed.
type call struct {
	name         string
	at, n        int
	prim         api.Prim
	word         uint64
	text         string
	head         api.Head
	numbers      cursor.Head
	token        api.Token
	block, count int
}

func (x call) of(c *cursor.Cursor) (a answer) {
	switch x.name {
	case "Claim":
		a.place, a.err = c.Claim(x.n)
	case "Get":
		a.word, a.err = c.Get(x.at, x.prim)
	case "Put":
		a.err = c.Put(x.at, x.prim, x.word)
	case "Chars":
		a.text, a.err = c.Chars(x.at, x.n)
	case "SetChars":
		a.err = c.SetChars(x.at, x.n, x.text)
	case "PutHead":
		a.err = c.PutHead(x.head, x.numbers)
	case "GetHead":
		a.head, a.err = c.GetHead(x.head)
	case "PutDim":
		a.err = c.PutDim(x.token, x.block, x.count)
	case "GetDim":
		a.block, a.count, a.err = c.GetDim(x.token)
	case "PutData":
		a.err = c.PutData(x.token, x.text)
	case "GetData":
		a.text, a.err = c.GetData(x.token)
	}
	return a
}

func (x call) ofSecond(m *second) answer {
	switch x.name {
	case "Claim":
		return m.claim(x.n)
	case "Get":
		return m.get(x.at, x.prim)
	case "Put":
		return m.put(x.at, x.prim, x.word)
	case "Chars":
		return m.chars(x.at, x.n)
	case "SetChars":
		return m.setChars(x.at, x.n, x.text)
	case "PutHead":
		return m.putHead(x.head, x.numbers)
	case "GetHead":
		return m.getHead(x.head)
	case "PutDim":
		return m.putDim(x.token, x.block, x.count)
	case "GetDim":
		return m.getDim(x.token)
	case "PutData":
		return m.putData(x.token, x.text)
	}
	return m.getData(x.token)
}

// short tells an answer, or a call, as plain characters, without what may be long.
func short(x any) string {
	s := strconv.QuoteToASCII(fmt.Sprintf("%+v", x))
	return s[:min(len(s), 400)]
}

// margin is how much memory lies ahead of the buffer, and how much room behind it.
const margin = 16

// twin is a cursor and a second one that are handed the same calls. The buffer lies inside greater memory, so that a byte that is changed outside shows.
type twin struct {
	t      *testing.T
	whole  []byte
	before []byte
	c      *cursor.Cursor
	m      *second
}

// newTwin begins at a place of a buffer with such bytes, and claims some.
func newTwin(t *testing.T, content []byte, at, claimed int, o api.Endian) *twin {
	t.Helper()
	w := &twin{t: t, whole: make([]byte, len(content)+2*margin)}
	for i := range w.whole {
		w.whole[i] = byte(0xA1 + 7*i)
	}
	copy(w.whole[margin:], content)
	w.before = slices.Clone(w.whole)
	var err, second api.Errno
	w.c, err = cursor.New(w.buffer(), at, o)
	w.m, second = newSecond(content, at, o)
	if err != api.OK || second != api.OK {
		t.Fatalf("New of %d bytes at %d: %v, not %v", len(content), at, err, second)
	}
	w.do(call{name: "Claim", n: claimed})
	return w
}

func (w *twin) buffer() []byte { return w.whole[margin : len(w.whole)-margin] }

// do hands both a call, and asks that they answer the same and stand alike, and that just the bytes which the second one has changed are changed.
func (w *twin) do(x call) answer {
	w.t.Helper()
	was := [3]int{w.c.Start(), w.c.At(), w.c.Room()}
	got, want := x.of(w.c), x.ofSecond(w.m)
	if got != want {
		w.t.Fatalf("%s of a cursor at %v = %s, not %s", short(x), was, short(got), short(want))
	}
	if is, must := [3]int{w.c.Start(), w.c.At(), w.c.Room()}, [3]int{w.m.start, w.m.end, w.m.room()}; is != must {
		w.t.Fatalf("%s: the cursor was at %v and is at %v, not %v", short(x), was, is, must)
	}
	w.ask(x)
	return got
}

// ask holds the memory against what it must be.
func (w *twin) ask(x call) {
	w.t.Helper()
	if !bytes.Equal(w.buffer(), w.m.bytes) {
		w.t.Fatalf("%s: bytes\n% X, not\n% X", short(x), w.buffer()[:min(64, len(w.m.bytes))], w.m.bytes[:min(64, len(w.m.bytes))])
	}
	behind := len(w.whole) - margin
	if !bytes.Equal(w.whole[:margin], w.before[:margin]) || !bytes.Equal(w.whole[behind:], w.before[behind:]) {
		w.t.Fatalf("%s: memory outside of the buffer is changed", short(x))
	}
}

// filled is a buffer of so many bytes, none of which is 0.
func filled(n int) []byte {
	b := make([]byte, n)
	for i := range b {
		b[i] = byte(0x81 + 5*i%0x70)
	}
	return b
}

func want(t *testing.T, what string, got, need any) {
	t.Helper()
	if got != need {
		t.Errorf("%s = %s, not %s", what, short(got), short(need))
	}
}

// begin is a cursor that must be there.
func begin(t *testing.T, b []byte, at int, o api.Endian) *cursor.Cursor {
	t.Helper()
	c, err := cursor.New(b, at, o)
	if err != api.OK || c == nil {
		t.Fatalf("New of %d bytes at %d, order %d: %v, %v", len(b), at, o, c, err)
	}
	return c
}

// claim is one that must be taken.
func claim(t *testing.T, c *cursor.Cursor, n int) {
	t.Helper()
	was := c.At()
	if at, err := c.Claim(n); at != was || err != api.OK {
		t.Fatalf("Claim(%d) = %d, %v, not %d", n, at, err, was)
	}
}

// stands asks where a cursor is.
func stands(t *testing.T, c *cursor.Cursor, start, at, room int) {
	t.Helper()
	if c.Start() != start || c.At() != at || c.Room() != room {
		t.Errorf("Start %d, At %d, Room %d, not %d, %d, %d", c.Start(), c.At(), c.Room(), start, at, room)
	}
}
