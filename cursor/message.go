package cursor

// message is what a cursor knows of its buffer: all of it, and from where to where the message lies in it by now.
type message struct {
	buffer     []byte
	start, end int
}

// holds is asked of an n that isn't below 0; it takes n off the end, where at and n added up might wrap.
func (m *message) holds(at, n int) bool { return m.start <= at && at <= m.end-n }

// grow takes n bytes more, for which there is room; it answers their place.
func (m *message) grow(n int) int {
	at := m.end
	m.end += n
	return at
}
