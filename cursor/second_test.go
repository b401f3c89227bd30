package cursor_test

import (
	"encoding/binary"
	"math/big"
	"slices"

	"stencil/api"
	"stencil/cursor"
)

// second is a cursor of its own, over a copy of the buffer, written from the chapter's words without package prim.
type second struct {
	bytes      []byte
	start, end int
	order      api.Endian
}

// answer is all that a call may answer.
type answer struct {
	err          api.Errno
	place        int
	word         uint64
	text         string
	head         cursor.Head
	block, count int
}

// isAtMost adds up whole numbers, which never wrap, and holds the sum against another.
func isAtMost(a, b, most int) bool {
	sum := new(big.Int).Add(big.NewInt(int64(a)), big.NewInt(int64(b)))
	return sum.Cmp(big.NewInt(int64(most))) <= 0
}

// sizeOf is the bytes of a type; 0 of what is none.
func sizeOf(p api.Prim) int {
	switch p {
	case api.Char, api.Int8, api.Uint8:
		return 1
	case api.Int16, api.Uint16:
		return 2
	case api.Int32, api.Uint32, api.Float:
		return 4
	case api.Int64, api.Uint64, api.Double:
		return 8
	}
	return 0
}

func isSigned(p api.Prim) bool {
	return p == api.Int8 || p == api.Int16 || p == api.Int32 || p == api.Int64
}

// isWord tells by whole numbers whether a word is one of a type.
func isWord(p api.Prim, w uint64) bool {
	low, high := new(big.Int), new(big.Int).Lsh(big.NewInt(1), uint(8*sizeOf(p)))
	n := new(big.Int).SetUint64(w)
	if isSigned(p) {
		high.Rsh(high, 1)
		low.Neg(high)
		n = big.NewInt(int64(w))
	}
	return n.Cmp(low) >= 0 && n.Cmp(high) < 0
}

func byteOrder(o api.Endian) binary.ByteOrder {
	if o == api.Big {
		return binary.BigEndian
	}
	return binary.LittleEndian
}

// wordBytes is how a word of a type lies in bytes.
func wordBytes(p api.Prim, o api.Endian, w uint64) []byte {
	b := make([]byte, sizeOf(p))
	switch len(b) {
	case 1:
		b[0] = byte(w)
	case 2:
		byteOrder(o).PutUint16(b, uint16(w))
	case 4:
		byteOrder(o).PutUint32(b, uint32(w))
	case 8:
		byteOrder(o).PutUint64(b, w)
	}
	return b
}

// bytesWord is the word that some bytes are.
func bytesWord(p api.Prim, o api.Endian, b []byte) uint64 {
	switch p {
	case api.Int8:
		return uint64(int64(int8(b[0])))
	case api.Int16:
		return uint64(int64(int16(byteOrder(o).Uint16(b))))
	case api.Int32:
		return uint64(int64(int32(byteOrder(o).Uint32(b))))
	case api.Char, api.Uint8:
		return uint64(b[0])
	case api.Uint16:
		return uint64(byteOrder(o).Uint16(b))
	case api.Uint32, api.Float:
		return uint64(byteOrder(o).Uint32(b))
	}
	return byteOrder(o).Uint64(b)
}

func newSecond(b []byte, at int, o api.Endian) (*second, api.Errno) {
	switch {
	case o != 0 && o != 1:
		return nil, api.ErrPrim
	case at < 0, at > len(b):
		return nil, api.ErrBuffer
	}
	return &second{bytes: slices.Clone(b), start: at, end: at, order: o}, api.OK
}

func (m *second) room() int { return len(m.bytes) - m.end }

// lies tells whether n bytes from a place on lie from the start up to the end.
func (m *second) lies(at, n int) bool { return at >= m.start && isAtMost(at, n, m.end) }

func (m *second) claim(n int) answer {
	switch {
	case n < 0:
		return answer{err: api.ErrArg}
	case n > m.room():
		return answer{err: api.ErrShort}
	}
	m.end += n
	return answer{place: m.end - n}
}

func (m *second) get(at int, p api.Prim) answer {
	size := sizeOf(p)
	switch {
	case size == 0:
		return answer{err: api.ErrPrim}
	case !m.lies(at, size):
		return answer{err: api.ErrLimit}
	}
	return answer{word: bytesWord(p, m.order, m.bytes[at:at+size])}
}

func (m *second) put(at int, p api.Prim, w uint64) answer {
	size := sizeOf(p)
	switch {
	case size == 0:
		return answer{err: api.ErrPrim}
	case !isWord(p, w):
		return answer{err: api.ErrRange}
	case !m.lies(at, size):
		return answer{err: api.ErrLimit}
	}
	copy(m.bytes[at:], wordBytes(p, m.order, w))
	return answer{}
}

func (m *second) chars(at, n int) answer {
	switch {
	case n < 0:
		return answer{err: api.ErrArg}
	case !m.lies(at, n):
		return answer{err: api.ErrLimit}
	}
	return answer{text: string(m.bytes[at : at+n])}
}

func (m *second) setChars(at, n int, s string) answer {
	switch {
	case n < 0:
		return answer{err: api.ErrArg}
	case !m.lies(at, n):
		return answer{err: api.ErrLimit}
	case len(s) > n:
		return answer{err: api.ErrChars}
	}
	for i := range n {
		m.bytes[at+i] = 0
		if i < len(s) {
			m.bytes[at+i] = s[i]
		}
	}
	return answer{}
}

// most is a spot's greatest number.
func most(s api.Spot) uint64 {
	return map[api.Prim]uint64{api.Uint8: 254, api.Uint16: 65534, api.Uint32: 4294967294}[s.Prim]
}

// areFine tells whether a size may be, and spots are good ones of it.
func areFine(size int, spots []api.Spot) bool {
	for _, s := range spots {
		if most(s) == 0 || s.Offset < 0 || !isAtMost(s.Offset, sizeOf(s.Prim), size) {
			return false
		}
	}
	return size >= 1 && size <= 65535
}

func headSpots(h api.Head) []api.Spot {
	return []api.Spot{h.Block, h.Template, h.Schema, h.Version}
}

func headNumbers(v cursor.Head) []uint64 {
	return []uint64{v.Block, v.Template, v.Schema, v.Version}
}

// lay writes numbers into bytes at the end, which are 0 beside them; it is asked when all else was.
func (m *second) lay(size int, spots []api.Spot, numbers []uint64) {
	piece := make([]byte, size)
	for i, s := range spots {
		copy(piece[s.Offset:], wordBytes(s.Prim, m.order, numbers[i]))
	}
	copy(m.bytes[m.end:], piece)
	m.end += size
}

// told is the numbers that stand at spots of the bytes at the end.
func (m *second) told(spots []api.Spot) []uint64 {
	var out []uint64
	for _, s := range spots {
		at := m.end + s.Offset
		out = append(out, bytesWord(s.Prim, m.order, m.bytes[at:at+sizeOf(s.Prim)]))
	}
	return out
}

func (m *second) putNumbers(fine bool, size int, spots []api.Spot, numbers []uint64) answer {
	if !fine {
		return answer{err: api.ErrArg}
	}
	for i, s := range spots {
		if numbers[i] > most(s) {
			return answer{err: api.ErrRange}
		}
	}
	if size > m.room() {
		return answer{err: api.ErrShort}
	}
	m.lay(size, spots, numbers)
	return answer{}
}

func (m *second) putHead(h api.Head, v cursor.Head) answer {
	spots := headSpots(h)
	return m.putNumbers(areFine(h.Size, spots), h.Size, spots, headNumbers(v))
}

func (m *second) getHead(h api.Head) answer {
	spots := headSpots(h)
	switch {
	case !areFine(h.Size, spots):
		return answer{err: api.ErrArg}
	case h.Size > m.room():
		return answer{err: api.ErrShort}
	}
	n := m.told(spots)
	m.end += h.Size
	return answer{head: cursor.Head{Block: n[0], Template: n[1], Schema: n[2], Version: n[3]}}
}

func isDim(t api.Token) bool {
	return t.Op == api.BeginGroup && areFine(t.Size, []api.Spot{t.A, t.B})
}

func (m *second) putDim(t api.Token, block, count int) answer {
	if isDim(t) && (block < 0 || count < 0) {
		return answer{err: api.ErrRange}
	}
	return m.putNumbers(isDim(t), t.Size, []api.Spot{t.A, t.B}, []uint64{uint64(block), uint64(count)})
}

func (m *second) getDim(t api.Token) answer {
	switch {
	case !isDim(t):
		return answer{err: api.ErrArg}
	case t.Size > m.room():
		return answer{err: api.ErrShort}
	}
	n := m.told([]api.Spot{t.A, t.B})
	m.end += t.Size
	return answer{block: int(n[0]), count: int(n[1])}
}

func isLen(t api.Token) bool { return t.Op == api.BeginData && areFine(t.Size, []api.Spot{t.A}) }

func (m *second) putData(t api.Token, s string) answer {
	switch {
	case !isLen(t):
		return answer{err: api.ErrArg}
	case uint64(len(s)) > most(t.A):
		return answer{err: api.ErrData}
	case !isAtMost(t.Size, len(s), m.room()):
		return answer{err: api.ErrShort}
	}
	m.lay(t.Size, []api.Spot{t.A}, []uint64{uint64(len(s))})
	copy(m.bytes[m.end:], s)
	m.end += len(s)
	return answer{}
}

func (m *second) getData(t api.Token) answer {
	switch {
	case !isLen(t):
		return answer{err: api.ErrArg}
	case t.Size > m.room():
		return answer{err: api.ErrShort}
	}
	n := int(m.told([]api.Spot{t.A})[0])
	if !isAtMost(t.Size, n, m.room()) {
		return answer{err: api.ErrShort}
	}
	m.end += t.Size + n
	return answer{text: string(m.bytes[m.end-n : m.end])}
}
