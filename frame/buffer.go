package frame

import "bytes"

// A buffer holds what has come of a stream; what lies ahead of the front is taken.
type buffer struct {
	bytes []byte
	front int
}

// count is how many bytes there are from the front on.
func (b *buffer) count() int { return len(b.bytes) - b.front }

// number is that of the bytes from one place to ahead of another, counted from the front on, the highest first.
func (b *buffer) number(from, to int) int64 {
	n := int64(0)
	for _, x := range b.bytes[b.front+from : b.front+to] {
		n = n<<8 | int64(x)
	}
	return n
}

func (b *buffer) add(chunk []byte) { b.bytes = append(b.bytes, chunk...) }

// take moves the front behind n bytes, which still lie in the buffer.
func (b *buffer) take(n int) []byte {
	b.front += n
	return b.bytes[b.front-n : b.front]
}

// pack gives up the room of what is taken. What is left came with the last chunk, so that its copy costs no more than that did.
func (b *buffer) pack() {
	if b.front > 0 {
		*b = buffer{bytes: bytes.Clone(b.bytes[b.front:])}
	}
}

func (b *buffer) drop() { *b = buffer{} }
