package frame_test

import (
	"math"
	"strings"
	"testing"
	"unsafe"

	"stencil/api"
	"stencil/frame"
)

// P24.5: the chapter's example 1.
func TestExampleWrap(t *testing.T) {
	wantWrap(t, parcel(60240, "ab"), raw("00 00 00 08 EB 50 61 62"), ok)
	wantWrap(t, parcel(23520, ""), raw("00 00 00 06 5B E0"), ok)
	wantWrap(t, parcel(1, "a"), "", badType)
}

func wantWrap(t *testing.T, p api.Parcel, want string, err api.Errno) {
	t.Helper()
	if s, e := frame.Wrap(p); s != want || e != err {
		t.Errorf("P24.5: Wrap(%s) = %s, %v; want %s, %v", shortParcels(list(p)), shown(s), e, shown(want), err)
	}
}

// P24.1: the chapter's examples 2 and 3.
func TestExampleSplit(t *testing.T) {
	s := raw("00 00 00 08 EB 50 61 62 00 00 00 06 5B E0 00")
	wantSplit(t, 100, s, list(parcel(60240, "ab"), parcel(23520, "")), 14, ok)
	wantSplit(t, 7, s, nil, 0, badSize)
	wantSplit(t, 100, "", nil, 0, ok)

	wantSplit(t, 100, raw("00 00 00 05"), nil, 0, badSize)
	wantSplit(t, 100, raw("00 00 00 07 EB"), nil, 0, ok)
	wantSplit(t, 100, raw("00 00 00 07 EB 51"), nil, 0, badType)
	wantSplit(t, 6, raw("00 00 00 06 EB 50 FF"), list(parcel(60240, "")), 6, ok)
	wantSplit(t, 5, raw("00 00 00"), nil, 0, ok)
	wantSplit(t, 5, raw("00 00 00 06"), nil, 0, badSize)
	wantSplit(t, -1, raw("00 00 00 00"), nil, 0, badSize)
}

// P24.2, P24.3, P24.4: the chapter's example 4.
func TestExampleFeed(t *testing.T) {
	f := frame.New(100)
	wantStands(t, f, 0, 6)
	wantFeed(t, f, raw("00 00 00"), nil, ok, 3, 3)
	wantFeed(t, f, raw("08"), nil, ok, 4, 4)
	wantFeed(t, f, raw("EB 50 61 62 00"), list(parcel(60240, "ab")), ok, 1, 5)
	wantFeed(t, f, raw("00 00 06 5B E0 00 00 00 01"), list(parcel(23520, "")), badSize, 0, 0)
	wantFeed(t, f, "", nil, badSize, 0, 0)
}

// P24.5: the length stands in four bytes, the encoding in two, the highest first; the body may be anything.
func TestWrap(t *testing.T) {
	for _, n := range []int{0, 1, 249, 250, 255, 256, 65529, 65530, 65536, 1<<24 - 7, 1<<24 - 6, 1 << 24} {
		body := strings.Repeat("\x00\xff", n/2+1)[:n]
		wantWrap(t, parcel(high, body), framed(uint32(n+6), 0x5BE0, body), ok)
		wantWrap(t, parcel(low, body), framed(uint32(n+6), 0xEB50, body), ok)
	}
	wantWrap(t, parcel(low, framed(7, high, "x")), raw("00 00 00 0D EB 50 00 00 00 07 5B E0 78"), ok)
}

// P24.5: an encoding that is none of the two, those with the same lowest bytes among them.
func TestWrapOfNoType(t *testing.T) {
	far := []int{math.MinInt, math.MinInt + high, -1, 0, 1, 0x5B, 0xE0, 0xEB, 0x50, 0xE05B, 0x50EB, math.MaxInt}
	for _, kind := range []int{high, low} {
		far = append(far, -kind, kind-1, kind+1, kind+1<<16, kind+1<<32, kind-1<<16, kind-1<<32, kind<<8, kind<<16)
	}
	for _, kind := range far {
		for _, body := range []string{"", "a", strings.Repeat("b", 70000)} {
			wantWrap(t, parcel(kind, body), "", badType)
		}
	}
	for kind := range 1 << 16 {
		if _, e := frame.Wrap(parcel(kind, "")); (e == ok) != (kind == high || kind == low) {
			t.Errorf("P24.5: Wrap of the type %d = %v", kind, e)
		}
	}
}

// P24.5: a body that is too long, of which the length alone is there: nobody may look at its bytes. The type is told first.
func TestWrapOfTooLong(t *testing.T) {
	one := []byte{7}
	for _, n := range []int{1<<32 - 6, 1<<32 - 5, 1<<32 - 1, 1 << 32, 1<<32 + 1, 1 << 40} {
		body := unsafe.String(&one[0], n)
		for kind, err := range map[int]api.Errno{high: badSize, low: badSize, 1: badType, high + 1: badType} {
			if s, e := frame.Wrap(parcel(kind, body)); s != "" || e != err {
				t.Errorf("P24.5: Wrap of the type %d and %d bytes = %d bytes, %v; want %v", kind, n, len(s), e, err)
			}
		}
	}
}

// P24.1: what a frame's length may be, at each limit.
func TestSplitLengths(t *testing.T) {
	far := []int{math.MinInt, math.MinInt32, -6, -1, 0, 1, 5, 6, 7, 8, 13, 14, 255, 256, 65536, 1 << 24, math.MaxInt32, 1<<32 - 1, 1 << 32, 1<<32 + 7, math.MaxInt}
	for _, limit := range far {
		for _, n := range []uint32{0, 1, 5, 6, 7, 8, 13, 14, 255, 256, 257, 65536, 1 << 24, 1 << 31, 1<<32 - 1} {
			err := ok
			if n < 6 || int64(n) > int64(limit) {
				err = badSize
			}
			head := framed(n, low, "")
			wantSplit(t, limit, head[:3], nil, 0, ok)
			wantSplit(t, limit, head[:4], nil, 0, err)
			wantSplit(t, limit, head[:5], nil, 0, err)
			body := strings.Repeat("b", 20)
			switch {
			case err != ok || n > 26:
				wantSplit(t, limit, head+body, nil, 0, err)
			default:
				behind := min(len(body)-int(n-6), 3)
				wantSplit(t, limit, head+body[:int(n-6)+behind], list(parcel(low, body[:n-6])), int(n), ok)
			}
		}
	}
}

// P24.1: the size is told ahead of the type, and each as soon as its bytes are there.
func TestSplitRefusals(t *testing.T) {
	good := framed(8, high, "hi")
	for _, r := range []struct {
		rest string
		err  api.Errno
	}{
		{"", ok}, {"00", ok}, {"FF", ok}, {"00 00 00", ok}, {"FF FF FF", ok},
		{"00 00 00 05", badSize}, {"00 00 00 05 00 00", badSize}, {"00 00 00 05 EB 50", badSize}, {"00 00 00 00 00 00 00", badSize},
		{"00 00 00 65", badSize}, {"00 00 00 65 00 00", badSize}, {"FF FF FF FF EB 50", badSize}, {"80 00 00 06 EB 50", badSize}, {"06 00 00 00", badSize},
		{"00 00 00 64", ok}, {"00 00 00 64 EB", ok}, {"00 00 00 64 00", ok}, {"00 00 00 64 EB 50", ok}, {"00 00 00 64 5B E0 01", ok},
		{"00 00 00 64 EB 51", badType}, {"00 00 00 64 EA 50", badType}, {"00 00 00 64 50 EB", badType}, {"00 00 00 64 E0 5B", badType}, {"00 00 00 64 00 00", badType}, {"00 00 00 06 5B 50", badType}, {"00 00 00 06 EB E0 00 00", badType},
		{"00 00 00 07 EB 50", ok}, {"00 00 00 08 5B E0 01", ok},
	} {
		for ahead := range 4 {
			var want []api.Parcel
			for range ahead {
				want = append(want, parcel(high, "hi"))
			}
			wantSplit(t, 100, strings.Repeat(good, ahead)+raw(r.rest), want, 8*ahead, r.err)
		}
	}
}

// P24.1: each encoding: those of the two alone are taken.
func TestSplitTypes(t *testing.T) {
	for kind := range 1 << 16 {
		s := framed(7, uint16(kind), "b\x00\x00")
		if kind == high || kind == low {
			wantSplit(t, 7, s, list(parcel(kind, "b")), 7, ok)
		} else if _, n, e := frame.Split(7, s); n != 0 || e != badType {
			t.Errorf("P24.1: Split of the type %d = %d, %v", kind, n, e)
		}
	}
}
