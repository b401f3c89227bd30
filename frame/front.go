package frame

import "stencil/api"

const (
	lengthSize = 4
	headSize   = 6
	mostLength = 1<<(8*lengthSize) - 1

	highFirst = 0x5BE0
	lowFirst  = 0xEB50
)

// A sight is what one look at the front tells.
type sight int

const (
	begun sight = iota
	whole
	wrongSize
	wrongType
)

// look goes by what is there: each refusal is told as soon as the bytes that give it have come.
func (f *Framer) look() sight {
	if f.count() < lengthSize {
		return begun
	}
	if length := f.length(); length < headSize || length > int64(f.limit) {
		return wrongSize
	}
	if f.count() < headSize {
		return begun
	}
	if !known(f.kind()) {
		return wrongType
	}
	if int64(f.count()) < f.length() {
		return begun
	}
	return whole
}

// cut takes all frames that are whole.
func (f *Framer) cut() ([]api.Parcel, api.Errno) {
	var parcels []api.Parcel
	for {
		switch f.look() {
		case whole:
			parcels = append(parcels, f.parcel())
		case wrongSize:
			return parcels, api.ErrFrameSize
		case wrongType:
			return parcels, api.ErrFrameType
		default:
			return parcels, api.OK
		}
	}
}

// parcel takes the frame at the front, which is whole.
func (f *Framer) parcel() api.Parcel {
	kind, length := int(f.kind()), int(f.length())
	frame := f.take(length)
	return api.Parcel{Type: kind, Body: string(frame[headSize:])}
}

func (f *Framer) length() int64 { return f.number(0, lengthSize) }
func (f *Framer) kind() int64   { return f.number(lengthSize, headSize) }

func known(kind int64) bool { return kind == highFirst || kind == lowFirst }

// header is that of a frame with a body of so many bytes.
func header(kind, body int64) (string, api.Errno) {
	if !known(kind) {
		return "", api.ErrFrameType
	}
	if body > mostLength-headSize {
		return "", api.ErrFrameSize
	}
	var b [headSize]byte
	put(b[:lengthSize], headSize+body)
	put(b[lengthSize:], kind)
	return string(b[:]), api.OK
}

// put writes the number's lowest bytes, the highest of them first.
func put(b []byte, n int64) {
	for i := range b {
		b[len(b)-1-i] = byte(n >> (8 * i))
	}
}
